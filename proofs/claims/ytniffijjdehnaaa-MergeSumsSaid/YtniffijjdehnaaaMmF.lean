/- The merging of keys: a key is consumed. -/
import Derived.Test.YtniffijjdehnaaaMmE
namespace Go.Proofs.Ytniffijjdehnaaa
open Go.RowKit Me Tx Ed Mg Va

/-- Arcs that fall, turned round, rise. -/
theorem rises_arcM : ∀ {A : List ArcR}, (A.Pairwise fun a b => b.dst < a.dst) → (∀ a ∈ A, 0 < a.wgt) → rises 0 (arcM A) = true
  | [], _, _ => rfl
  | a :: A, hp, hw => by
    have hp2 := List.pairwise_cons.1 hp
    rw [arcM_cons, rises_snoc, rises_arcM hp2.2 fun b hb => hw b (List.mem_cons_of_mem _ hb)]
    have h0 := hw a List.mem_cons_self
    have hl : leastOf (arcM A) ≤ a.dst := by
      cases A with
      | nil => exact Nat.zero_le _
      | cons b B =>
        have := hp2.1 b List.mem_cons_self
        rw [arcM_cons]
        unfold leastOf
        rw [List.getLast?_append]
        show b.dst + 1 ≤ a.dst
        omega
    simp
    omega
theorem arcM_mem {A : List ArcR} {p : ArcD} (h : p ∈ arcM A) : ∃ a ∈ A, p = ⟨a.dst, a.wgt⟩ := by
  unfold arcM at h
  rw [List.mem_reverse, List.mem_map] at h
  obtain ⟨a, h1, h2⟩ := h
  exact ⟨a, h1, h2.symm⟩
theorem sumA_mem {A : List ArcR} : ∀ {a : ArcR}, a ∈ A → a.wgt ≤ sumA A := by
  induction A with
  | nil => intro a h; cases h
  | cons b A ih =>
    intro a h
    have e : sumA (b :: A) = b.wgt + sumA A := by simp [sumA]
    rw [e]
    rcases List.mem_cons.1 h with rfl | h
    · omega
    · have := ih h; omega
theorem errK_zero {rows : List RowR} {last : Option EdD} {b : List UInt8} (h : errK rows last b = 0) : b.length = 12 ∧ 0 < (edB b).wgt ∧ under last (edB b) = false ∧ hasR (edB b) rows + (edB b).wgt ≤ 2147483647 := by
  unfold errK at h
  split at h
  · cases h
  · rename_i h1
    split at h
    · cases h
    · rename_i h2
      split at h
      · cases h
      · rename_i h3
        refine ⟨?_, ?_, by simpa using h2, by omega⟩
        · rcases Decidable.em (b.length = 12) with h | h
          · exact h
          · exact absurd (.inl h) h1
        · rcases Nat.eq_zero_or_pos (edB b).wgt with h | h
          · exact absurd (.inr h) h1
          · exact h
theorem MkOk.start : MkOk [] none 0 := ⟨KeysOk.start, RowsOk.nil, (fun y h => by cases h), (fun r h => by cases h)⟩
theorem addA_fit {x : EdD} {A : List ArcR} (hx : x.dst < 4294967296) (h : ∀ a ∈ A, a.dst < 4294967296) : ∀ a ∈ addA x A, a.dst < 4294967296 := by
  intro a ha
  cases A with
  | nil =>
    rw [addA, List.mem_singleton] at ha
    rw [ha]; exact hx
  | cons b A =>
    rw [addA] at ha
    split at ha
    · rcases List.mem_cons.1 ha with rfl | ha
      · exact h b List.mem_cons_self
      · exact h a (List.mem_cons_of_mem _ ha)
    · rcases List.mem_cons.1 ha with rfl | ha
      · exact hx
      · exact h a ha
theorem MkOk.empty {rows : List RowR} {last : Option EdD} {k : Nat} (h : MkOk rows last k) (hl : last = none) : rows = [] := h.keys.nil.2 (h.keys.none_.1 hl)
theorem MkOk.head {rows : List RowR} {last : Option EdD} {k : Nat} (h : MkOk rows last k) {r : RowR} {l : List RowR} (hr : rows = r :: l) : ∃ y a A, last = some y ∧ r.arcs = a :: A ∧ r.src = y.src ∧ a.dst = y.dst := by
  cases hl : last with
  | none => rw [h.empty hl] at hr; cases hr
  | some y =>
    obtain ⟨r', L, a, A, e, h1, h2, h3⟩ := h.front y hl
    rw [hr] at e
    injection e with e
    subst e
    exact ⟨y, a, A, rfl, h1, h2, h3⟩
theorem MkOk.next {rows : List RowR} {last : Option EdD} {k : Nat} {b : List UInt8} (h : MkOk rows last k) (he : errK rows last b = 0) : MkOk (addR (edB b) rows) (some (edB b)) (k + 1) := by
  obtain ⟨-, h2, h3, h4⟩ := errK_zero he
  have hx := edB_fit b
  have ha := h.ok.add h2 (x := edB b) (by
    cases hl : last with
    | none => exact .inl (h.empty hl)
    | some y => exact .inr ⟨y, h.front y hl, by rw [hl] at h3; exact h3⟩)
  refine ⟨h.keys.next hx h4, ha.1, fun y e => by injection e with e; rw [← e]; exact ha.2, ?_⟩
  intro r hr
  cases rows with
  | nil =>
    rw [addR, List.mem_singleton] at hr
    rw [hr]
    exact ⟨hx.1, fun a ha => by rw [List.mem_singleton.1 ha]; exact hx.2.1⟩
  | cons r0 l =>
    rw [addR] at hr
    split at hr
    · rcases List.mem_cons.1 hr with rfl | hr
      · have := h.fit r0 List.mem_cons_self
        exact ⟨this.1, addA_fit hx.2.1 this.2⟩
      · exact h.fit r (List.mem_cons_of_mem _ hr)
    · rcases List.mem_cons.1 hr with rfl | hr
      · exact ⟨hx.1, fun a ha => by rw [List.mem_singleton.1 ha]; exact hx.2.1⟩
      · exact h.fit r hr
theorem mh_add (x : EdD) (rows : List RowR) : mh (addR x rows) = if (mh rows).1 = x.src then (x.src, addA x (mh rows).2) else (x.src, addA x []) := by
  cases rows with
  | nil =>
    show (x.src, [(⟨x.dst, x.wgt⟩ : ArcR)]) = if (0 : Nat) = x.src then (x.src, addA x []) else (x.src, addA x [])
    split <;> rfl
  | cons r l =>
    rw [addR]
    show mh (if r.src = x.src then _ else _) = if r.src = x.src then _ else _
    split
    · rename_i h
      show (r.src, addA x r.arcs) = _
      rw [h]
      rfl
    · rfl
/-- What the adding of an edge asks. -/
theorem MkOk.adds {rows : List RowR} {last : Option EdD} {k : Nat} {x : EdD} (h : MkOk rows last k) (h3 : under last x = false) (h4 : hasR x rows + x.wgt ≤ 2147483647) (hf : (mh rows).1 = x.src) :
    (∀ p ∈ arcM (mh rows).2, p.fits) ∧ rises 0 (arcM (mh rows).2) = true ∧ (∀ a A', (mh rows).2 = a :: A' → a.dst ≤ x.dst ∧ (∀ p ∈ arcM A', p.to < x.dst) ∧ a.wgt + x.wgt < 4294967296) ∧ sumA (mh rows).2 + x.wgt ≤ 2147483647 ∧ (arcM (mh rows).2).length ≤ k := by
  cases rows with
  | nil =>
    refine ⟨fun p hp => (by cases hp), rfl, fun a A' e => (by cases e), ?_, Nat.zero_le _⟩
    simpa [mh, sumA, hasR] using h4
  | cons r l =>
    replace hf : r.src = x.src := hf
    have h5 : sumA r.arcs + x.wgt ≤ 2147483647 := by rw [hasR, if_pos hf] at h4; exact h4
    have hd := h.ok.dsts r List.mem_cons_self
    have hfit := h.fit r List.mem_cons_self
    obtain ⟨y, a, A, rfl, h7, h8, h9⟩ := h.head rfl
    refine ⟨fun p hp => ?_, rises_arcM hd (h.ok.pos r List.mem_cons_self), fun a' A' e => ?_, h5, by rw [arcM_length]; exact (h.keys.arcs r List.mem_cons_self).2⟩
    · obtain ⟨q, hq, rfl⟩ := arcM_mem hp
      have : q.wgt ≤ sumA r.arcs := sumA_mem hq
      exact ⟨hfit.2 q hq, by show q.wgt < _; omega⟩
    · replace e : r.arcs = a' :: A' := e
      rw [h7] at e
      injection e with e1 e2
      subst e1 e2
      have hlow := lowE_no.1 h3
      have ha : a.dst ≤ x.dst := by omega
      have hm := sumA_mem (A := r.arcs) (a := a) (by rw [h7]; exact List.mem_cons_self)
      rw [h7] at hd
      have hp := (List.pairwise_cons.1 hd).1
      refine ⟨ha, fun p hp' => ?_, by omega⟩
      obtain ⟨q, hq, rfl⟩ := arcM_mem hp'
      have := hp q hq
      show q.dst < x.dst
      omega
/-- A key has been consumed. -/
def McPost (w : World) (lo G : Nat) (rows : List RowR) (last : Option EdD) (A : Option Addr) (n c : Nat) (b : List UInt8) (e : Ending) (w' : World) : Prop :=
  (errK rows last b ≠ 0 ∧ e = .returned (.tuple #[.agg #[.int .u32 0, .slice none 0 0], .int .i64 (errK rows last b)]) ∧ Below w.heap.size w w') ∨
  (errK rows last b = 0 ∧ ∃ A' n' c', MrgAt w' lo G (addR (edB b) rows) (some (edB b)) A' n' c' ∧
    (((mh rows).1 = (edB b).src ∧ e = .returned (.tuple #[.agg #[.int .u32 0, .slice none 0 0], .int .i64 0]) ∧ Out (fun k => k = G ∨ (Value.slice A n c).ownBlock = some k) w w' ∧ ∀ k, (Value.slice A' n' c').ownBlock = some k → (Value.slice A n c).ownBlock = some k ∨ w.heap.size ≤ k) ∨
     ((mh rows).1 ≠ (edB b).src ∧ e = .returned (.tuple #[.agg #[.int .u32 ((mh rows).1 : Int), .slice A n c], .int .i64 0]) ∧ Out (fun k => k = G) w w' ∧ ∀ k, (Value.slice A' n' c').ownBlock = some k → w.heap.size ≤ k)))
theorem row_size : (Try.prog.info? 51).map (·.size) = some 2 := by kernel_rfl
theorem row_one (s : Int) (A : Option Addr) (n c : Nat) : (#[.int .u32 s, .slice A n c] : Array Value).all (·.oneCell') = true := by simp [Value.oneCell']
/-- What is known of each slot where the vertices are compared. -/
def mcF (G N f xs : Nat) (q : Bool) : Gw.Fact := fun t v _ =>
  match t with
  | 0 | 21 | 22 | 23 | 24 => v = .pointer (some ⟨G, 0, none⟩)
  | 6 | 19 => v = .pointer (some ⟨N, 0, none⟩)
  | 20 => v = .int .u32 (xs : Int)
  | 25 => v = .int .u32 (f : Int)
  | 26 => v = .bool q
  | _ => True
set_option maxRecDepth 100000 in
set_option maxHeartbeats 4000000 in
theorem mcons_any (lo G n c : Nat) (A : Option Addr) (rows : List RowR) (last : Option EdD) (k : Nat) (K : Option Addr) (kn kc : Nat) (b : List UInt8) (w : World) (h : MrgAt w lo G rows last A n c) (hok : MkOk rows last k) (hk : k ≤ 1000) (hl : b.length = kn) (hr : Rd w w.heap.size K b) :
    Calls Try.prog 31 #[.pointer (some ⟨G, 0, none⟩), .slice K kn kc] w (McPost w lo G rows last A n c b) := by
  obtain ⟨H, hH⟩ : ∃ H, H = w.heap.size := ⟨_, rfl⟩
  obtain ⟨w0, hw0⟩ : ∃ w0, w0 = w.alloc (.cells #[.int .u32 0, .slice none 0 0] 51) := ⟨_, rfl⟩
  have hb0 : Below w.heap.size w w0 := by rw [hw0]; exact (Below.refl _ _).alloc (Nat.le_refl _) _
  have BZ := Lib.hid (show Blk w0 H [.int .u32 0, .slice none 0 0] by rw [hw0, hH]; exact Blk.new w [.int .u32 0, .slice none 0 0] _)
  have HNX := Lib.hid (mnext_any lo G n c A rows last k K kn kc b w0 (h.past hb0) hok hl ((hr.below hb0).more hb0.size))
  have HW0 := Lib.hid hw0
  have HHE := Lib.hid hH
  have HB0 := Lib.hid hb0
  have HM := Lib.hid h
  have HOK := Lib.hid hok
  have HK := Lib.hid hk
  clear hw0 hH hb0 hl hr h hok hk
  go_enter Try.func31, Try.ntmps31
  go_upto_region 1 with fail
  rw [← HW0.out, ← HHE.out]
  go_wp2_with fail
  refine HNX.out.mono ?_
  rintro e w1 ⟨⟨x0, x1, x2⟩, rfl, hx, hb1⟩
  have HB1 := Lib.hid hb1
  have HX := Lib.hid hx
  clear HNX hb1 hx
  obtain ⟨z, hz⟩ : ∃ z, z = errK rows last b := ⟨_, rfl⟩
  rw [← hz]
  unfold numV
  obtain ⟨w2, hw2⟩ : ∃ w2, w2 = w1.alloc (.cells #[.int .u32 (x0 : Int), .int .u32 (x1 : Int), .int .u32 (x2 : Int)] 63) := ⟨_, rfl⟩
  obtain ⟨N, hN⟩ : ∃ N, N = w1.heap.size := ⟨_, rfl⟩
  have HB2 := Lib.hid (show Below w0.heap.size w0 w2 from by rw [hw2]; exact HB1.out.alloc HB1.out.size _)
  have BN := Lib.hid (show Blk w2 N [.int .u32 (x0 : Int), .int .u32 (x1 : Int), .int .u32 (x2 : Int)] from by rw [hw2, hN]; exact Blk.new w1 [.int .u32 (x0 : Int), .int .u32 (x1 : Int), .int .u32 (x2 : Int)] _)
  have HNH := Lib.hid (show H < N by have := BZ.out.lt; have := HB1.out.size; omega)
  have HW2 := Lib.hid hw2
  have HNE := Lib.hid hN
  have HZ := Lib.hid hz
  clear hw2 hN hz
  go_upto_region 2 with fail
  rw [← HW2.out, ← HNE.out]
  have BZ2 := Lib.hid (BZ.out.past HB2.out)
  have HLOW := Lib.hid (HB0.out.trans (HB2.out.mono HB0.out.size))
  by_cases hz0 : z = 0
  · have d0 : (z != 0) = false := by simp [hz0]
    have HZ0 := Lib.hid hz0
    clear hz0
    have hz00 : errK rows last b = 0 := HZ.out.symm.trans HZ0.out
    obtain ⟨h12, hxe⟩ := HX.out hz00
    obtain ⟨-, hwp, hun, hov⟩ := errK_zero hz00
    rw [← hxe] at hwp hun hov
    have HXE := Lib.hid hxe
    have HE0 := Lib.hid hz00
    have hfit : FitE ⟨x0, x1, x2⟩ := by rw [hxe]; exact edB_fit b
    have HFX := Lib.hid hfit
    have HUN := Lib.hid hun
    have HOV := Lib.hid hov
    clear hxe hz00 h12 hwp hun hov hfit
    obtain ⟨f, hf⟩ : ∃ f, f = (mh rows).1 := ⟨_, rfl⟩
    obtain ⟨s, hs⟩ : ∃ s, s = sumA (mh rows).2 := ⟨_, rfl⟩
    obtain ⟨y, hy⟩ : ∃ y, y = last.getD ⟨0, 0, 0⟩ := ⟨_, rfl⟩
    obtain ⟨As, hAs⟩ : ∃ As, As = (mh rows).2 := ⟨_, rfl⟩
    obtain ⟨w3, hw3⟩ : ∃ w3, w3 = w2.alloc (.cells #[.int .u32 0, .slice none 0 0] 51) := ⟨_, rfl⟩
    obtain ⟨D, hD⟩ : ∃ D, D = w2.heap.size := ⟨_, rfl⟩
    have hb23 : Below w2.heap.size w2 w3 := by rw [hw3]; exact (Below.refl _ _).alloc (Nat.le_refl _) _
    have BD := Lib.hid (show Blk w3 D [.int .u32 0, .slice none 0 0] from by rw [hw3, hD]; exact Blk.new w2 [.int .u32 0, .slice none 0 0] _)
    have BZ3 := Lib.hid (BZ2.out.past hb23)
    have BN3 := Lib.hid (BN.out.past hb23)
    have HLOW3 := Lib.hid (HLOW.out.trans (hb23.mono HLOW.out.size))
    have HM3 := Lib.hid (HM.out.past HLOW3.out)
    have BG3 := Lib.hid (show Blk w3 G (mgC f s n c A y) from by rw [hf, hs, hy]; exact HM3.out.box)
    have OW3 := Lib.hid (show w3.ownsRow lo 59 2 (.slice A n c) n (arcCells (arcM As)) from by rw [hAs]; exact HM3.out.own)
    have HW3 := Lib.hid hw3
    have HDE := Lib.hid hD
    have HIN := Lib.hid (show G < lo ∧ lo ≤ H ∧ H < N ∧ N < D ∧ N < w3.heap.size ∧ D < w3.heap.size from by
      have h1 := HM.out.low; have h2 := HM.out.lim; have h3 := HHE.out; have h4 := HNH.out; have h5 := BN.out.lt; have h6 := BD.out.lt; have h7 := hb23.size
      omega)
    have HF := Lib.hid (And.intro hf (And.intro hs (And.intro hy hAs)))
    clear hf hs hy hAs hw3 hD hb23
    go_upto_region 5 with fail
    rw [← HW3.out, ← HDE.out]
    obtain ⟨q, hq⟩ : ∃ q, ((x0 : Int) != (f : Int)) = q := ⟨_, rfl⟩
    have HQ := Lib.hid (show q = true ↔ f ≠ x0 from by rw [← hq]; simp; omega)
    refine Gw.wp_region_grow (mcF G N f x0 q) [19, 20, 21, 22, 23, 24, 25, 26] [([6], none), ([19], none), ([0], none), ([21], none), ([22], none), ([23], none), ([24], none), ([20, 25], none)] 44 (by kernel_rfl) (by kernel_rfl) rfl ?h0 ?hreq ?hend
    case h0 =>
      intro t W hnd _
      unfold mcF
      split <;> first | rfl | trivial | exact absurd (by simp) hnd
    case hreq =>
      refine ⟨?_, ?_, ?_, ?_, ?_, ?_, ?_, ?_, trivial⟩
      all_goals
        intro ac W hg hk
        have z0 := (BN3.out.past hg).cell (i := 0) rfl
        have z1 := (BG3.out.past hg).cell (i := 0) rfl
        simp only [Gw.Knows, mcF] at hk
        simp [go_sem, Gw.OpReq, Gw.Ok, Gw.Post, Gw.Holds, mcF, Gw.Grows.refl, hk, z0, z1, hq]
        done
    case hend =>
      intro v w4 hg hv
      have v26 := (hv 26 (by simp)).now
      simp only [mcF] at v26
      simp only [Gw.putAll, Act.put, List.setIfInBounds_toArray, List.set_cons_zero, List.set_cons_succ]
      rw [v26]
      have HB4 := Lib.hid (show Below w3.heap.size w3 w4 from hg)
      clear hg hv v26 hq
      have BD4 := Lib.hid (BD.out.past HB4.out)
      have BZ4 := Lib.hid (BZ3.out.past HB4.out)
      have BN4 := Lib.hid (BN3.out.past HB4.out)
      have BG4 := Lib.hid (BG3.out.past HB4.out)
      have OW4 := Lib.hid (own_below' OW3.out HB4.out)
      have HLOW4 := Lib.hid (HLOW3.out.trans (HB4.out.mono HLOW3.out.size))
      have n0 := BN4.out.cell (i := 0) rfl
      have n1 := BN4.out.cell (i := 1) rfl
      have n2 := BN4.out.cell (i := 2) rfl
      cases q with
      | true =>
        have hne : f ≠ x0 := HQ.out.1 rfl
        have HNE2 := Lib.hid hne
        clear hne
        have g0 := BG4.out.cell (i := 0) rfl
        have g1 := BG4.out.cell (i := 1) rfl
        have e0 := BD4.out.cell (i := 0) rfl
        have e1 := BD4.out.cell (i := 1) rfl
        have k0 := BD4.out.frozen 0
        have k1 := BD4.out.frozen 1
        go_upto_region 7 with fail
        obtain ⟨w5, hw5⟩ : ∃ w5, w5 = (w4.setCell ⟨D, 0, none⟩ (.int .u32 (f : Int))).setCell ⟨D, 1, none⟩ (.slice A n c) := ⟨_, rfl⟩
        have ho5 : Out (fun k => k = D) w4 w5 := by rw [hw5]; exact ((Out.refl (fun k => k = D) w4).setCell (p := ⟨D, 0, none⟩) (.inl rfl) _).setCell (p := ⟨D, 1, none⟩) (.inl rfl) _
        have BD5 := Lib.hid (show Blk w5 D [.int .u32 (f : Int), .slice A n c] from by rw [hw5]; exact (BD4.out.set 0 _).set 1 _)
        have BZ5 := Lib.hid (BZ4.out.out ho5 (by have := HIN.out; omega))
        have BN5 := Lib.hid (BN4.out.out ho5 (by have := HIN.out; omega))
        have BG5 := Lib.hid (BG4.out.out ho5 (by have := HIN.out; omega))
        have HO5 := Lib.hid ho5
        have HW5 := Lib.hid hw5
        rw [← HW5.out]
        clear hw5 ho5 g0 g1 e0 e1 k0 k1 n0 n1 n2
        have n0 := BN5.out.cell (i := 0) rfl
        have g0 := BG5.out.cell (i := 0) rfl
        have g1 := BG5.out.cell (i := 1) rfl
        have g2 := BG5.out.cell (i := 2) rfl
        have k0 := BG5.out.frozen 0
        have k1 := BG5.out.frozen 1
        have k2 := BG5.out.frozen 2
        go_upto_region 8 with fail
        obtain ⟨w6, hw6⟩ : ∃ w6, w6 = ((w5.setCell ⟨G, 0, none⟩ (.int .u32 (x0 : Int))).setCell ⟨G, 1, none⟩ (.slice none 0 0)).setCell ⟨G, 2, none⟩ (.int .u64 0) := ⟨_, rfl⟩
        have ho6 : Out (fun k => k = G) w5 w6 := by rw [hw6]; exact (((Out.refl (fun k => k = G) w5).setCell (p := ⟨G, 0, none⟩) (.inl rfl) _).setCell (p := ⟨G, 1, none⟩) (.inl rfl) _).setCell (p := ⟨G, 2, none⟩) (.inl rfl) _
        have BG6 := Lib.hid (show Blk w6 G (mgC x0 0 0 0 none y) from by rw [hw6]; exact ((BG5.out.set 0 _).set 1 _).set 2 _)
        have BD6 := Lib.hid (BD5.out.out ho6 (by have := HIN.out; omega))
        have BZ6 := Lib.hid (BZ5.out.out ho6 (by have := HIN.out; omega))
        have BN6 := Lib.hid (BN5.out.out ho6 (by have := HIN.out; omega))
        have HO6 := Lib.hid ho6
        have HW6 := Lib.hid hw6
        rw [← HW6.out]
        clear hw6 ho6 n0 g0 g1 g2 k0 k1 k2
        have n0 := BN6.out.cell (i := 0) rfl
        have n1 := BN6.out.cell (i := 1) rfl
        have n2 := BN6.out.cell (i := 2) rfl
        have HADD := Lib.hid (madd_any lo G x0 0 0 0 none [] y ⟨x0, x1, x2⟩ w6 HFX.out BG6.out (World.ownsRow_nil _ _ _ _) HIN.out.1 (by have := HIN.out; have := HB4.out.size; have := HO5.out.size; have := HO6.out.size; omega) rfl (by omega) (fun p hp => (by cases hp)) rfl (fun a A' e => (by cases e)) (by have h : x2 < 4294967296 := HFX.out.2.2; show 0 + x2 < _; omega))
        unfold numV at HADD
        go_wp2_with fail
        refine HADD.out.mono ?_
        rintro e wx ⟨rfl, ⟨A', n', c', hbx, how, hln, hloc⟩, hout⟩
        have HPX := Lib.hid (And.intro hbx (And.intro how (And.intro hln (And.intro hloc hout))))
        have BDX := Lib.hid (BD6.out.out hout (fun h => by
            rcases h with h | h
            · have := HIN.out; omega
            · cases h))
        have BZX := Lib.hid (BZ6.out.out hout (fun h => by
            rcases h with h | h
            · have := HIN.out; omega
            · cases h))
        clear hbx how hln hloc hout n0 n1 n2
        have t0 := BDX.out.cell (i := 0) rfl
        have t1 := BDX.out.cell (i := 1) rfl
        go_wp2_with (refine wpList_store_blk rfl 51 _ _ rfl H _ #[.int .u32 (f : Int), .slice A n c] rfl rfl BZX.out rfl row_size (row_one _ _ _ _) ?_
                     intro w7 hb7 ho7
                     have HB7 := Lib.hid hb7
                     have HO7 := Lib.hid ho7
                     clear hb7 ho7)
        have r0 := HB7.out.cell (i := 0) rfl
        have r1 := HB7.out.cell (i := 1) rfl
        refine bodyPost_ret (v := .tuple #[.agg #[.int .u32 (f : Int), .slice A n c], .int .i64 0]) (by simp [results, Try.results31, go_sem, r0, r1]) rfl ?_
        obtain ⟨hbx, how, hln, hloc, hout⟩ := HPX.out
        have hOA : Out (fun k => k = G) w w7 := (((((Out.of_below HLOW4.out).trans' HO5.out fun k e => .inr (by have := HIN.out; have := HHE.out; omega)).trans HO6.out).trans' hout fun k e => .inl (by
            rcases e with e | e
            · exact e
            · cases e)).trans' HO7.out fun k e => .inr (by have := HHE.out; omega))
        have hm := mh_add ⟨x0, x1, x2⟩ rows
        rw [if_neg (by rw [← HF.out.1]; exact HNE2.out)] at hm
        refine .inr ⟨HE0.out, A', n', c', ?_, .inr ⟨?_, ?_, hOA, ?_⟩⟩
        · rw [← HXE.out]
          have h8 := hbx.out HO7.out (by have := HIN.out; omega)
          have h9 := own_out how HO7.out (fun k h e => by
            have e : k = H := e
            rcases hloc with h1 | ⟨k1, h1, h2⟩
            · rw [h1] at h; cases h
            · rw [h1] at h; injection h with h; have := HIN.out; have := HB4.out.size; have := HO5.out.size; have := HO6.out.size; omega)
          refine ⟨?_, ?_, ?_, HIN.out.1, ?_⟩
          · rw [hm]
            have e : sumA (addA ⟨x0, x1, x2⟩ []) = 0 + x2 := by simp [addA, sumA]
            rw [e]
            exact h8
          · rw [hm]; exact h9
          · rw [hm]; exact hln
          · have := HIN.out; have := HB4.out.size; have := HO5.out.size; have := HO6.out.size; have := hout.size; have := HO7.out.size; omega
        · rw [← HF.out.1, ← HXE.out]; exact HNE2.out
        · rw [← HF.out.1]
        · intro k hk
          rcases hloc with h1 | ⟨k1, h1, h2⟩
          · rw [h1] at hk; cases hk
          · rw [h1] at hk; injection hk with hk; have := HIN.out; have := HB4.out.size; have := HO5.out.size; have := HO6.out.size; have := HHE.out; omega
      | false =>
        have heq : f = x0 := Classical.byContradiction fun h => by have := HQ.out.2 h; cases this
        subst heq
        obtain ⟨hh1, hh2, hh3, hh4, hh5⟩ := HOK.out.adds (x := ⟨f, x1, x2⟩) HUN.out HOV.out HF.out.1.symm
        rw [← HF.out.2.1] at hh4
        rw [← HF.out.2.2.2] at hh1 hh2 hh3 hh5
        have HADD := Lib.hid (madd_any lo G f s n c A As y ⟨f, x1, x2⟩ w4 HFX.out BG4.out OW4.out HIN.out.1 (by have := HIN.out; have := HB4.out.size; omega) (by rw [HF.out.2.2.2]; exact HM.out.len) (by rw [← HM.out.len, ← HF.out.2.2.2]; have := HK.out; omega) hh1 hh2 hh3 (by have h : s + x2 ≤ 2147483647 := hh4; show s + x2 < _; omega))
        clear hh1 hh2 hh3 hh4 hh5
        unfold numV at HADD
        go_wp2_with fail
        refine HADD.out.mono ?_
        rintro e wx ⟨rfl, ⟨A', n', c', hbx, how, hln, hloc⟩, hout⟩
        have HPX := Lib.hid (And.intro hbx (And.intro how (And.intro hln (And.intro hloc hout))))
        have BDX := Lib.hid (BD4.out.out hout (fun h => by
            rcases h with h | h
            · have := HIN.out; omega
            · have := (HM.out.own.lt _ h).2; have := HHE.out; have := HIN.out; omega))
        have BZX := Lib.hid (BZ4.out.out hout (fun h => by
            rcases h with h | h
            · have := HIN.out; omega
            · have := (HM.out.own.lt _ h).2; have := HHE.out; have := HIN.out; omega))
        clear hbx how hln hloc hout n0 n1 n2
        have t0 := BDX.out.cell (i := 0) rfl
        have t1 := BDX.out.cell (i := 1) rfl
        go_wp2_with (refine wpList_store_blk rfl 51 _ _ rfl H _ #[.int .u32 0, .slice none 0 0] rfl rfl BZX.out rfl row_size (row_one _ _ _ _) ?_
                     intro w7 hb7 ho7
                     have HB7 := Lib.hid hb7
                     have HO7 := Lib.hid ho7
                     clear hb7 ho7)
        have r0 := HB7.out.cell (i := 0) rfl
        have r1 := HB7.out.cell (i := 1) rfl
        refine bodyPost_ret (v := .tuple #[.agg #[.int .u32 0, .slice none 0 0], .int .i64 0]) (by simp [results, Try.results31, go_sem, r0, r1]) rfl ?_
        obtain ⟨hbx, how, hln, hloc, hout⟩ := HPX.out
        have hOA : Out (fun k => k = G ∨ (Value.slice A n c).ownBlock = some k) w w7 := (((Out.of_below HLOW4.out).trans hout).trans' HO7.out fun k e => .inr (by have := HHE.out; omega))
        have hm := mh_add ⟨f, x1, x2⟩ rows
        rw [if_pos HF.out.1.symm, ← HF.out.2.2.2] at hm
        refine .inr ⟨HE0.out, A', n', c', ?_, .inl ⟨?_, rfl, hOA, ?_⟩⟩
        · rw [← HXE.out]
          have h8 := hbx.out HO7.out (by have := HIN.out; omega)
          have h9 := own_out how HO7.out (fun k h e => by
            have e : k = H := e
            rcases hloc with h1 | ⟨k1, h1, h2⟩
            · rw [h1] at h
              have := (HM.out.own.lt k h).2
              have := HHE.out
              omega
            · rw [h1] at h; injection h with h; have := HIN.out; have := HB4.out.size; omega)
          refine ⟨?_, ?_, ?_, HIN.out.1, ?_⟩
          · rw [hm]
            have e : sumA (addA ⟨f, x1, x2⟩ As) = s + x2 := by rw [sumA_add, HF.out.2.1, HF.out.2.2.2]
            rw [e]
            exact h8
          · rw [hm]; exact h9
          · rw [hm]; exact hln
          · have := HIN.out; have := HB4.out.size; have := hout.size; have := HO7.out.size; omega
        · rw [← HF.out.1, ← HXE.out]
        · intro k hk
          rcases hloc with h1 | ⟨k1, h1, h2⟩
          · rw [h1] at hk; exact .inl hk
          · rw [h1] at hk; injection hk with hk; exact .inr (by have := HIN.out; have := HB4.out.size; have := HHE.out; omega)
  · have d0 : (z != 0) = true := by simp [hz0]
    have HZ0 := Lib.hid hz0
    clear hz0
    go_wp2_with (refine wpList_store_blk rfl 51 _ _ rfl H _ #[.int .u32 0, .slice none 0 0] rfl rfl BZ2.out rfl row_size (row_one _ _ _ _) ?_
                 intro w7 hb7 ho7
                 have HB7 := Lib.hid hb7
                 have HO7 := Lib.hid ho7
                 clear hb7 ho7)
    have r0 := HB7.out.cell (i := 0) rfl
    have r1 := HB7.out.cell (i := 1) rfl
    refine bodyPost_ret (v := .tuple #[.agg #[.int .u32 0, .slice none 0 0], .int .i64 z]) (by simp [results, Try.results31, go_sem, r0, r1]) rfl ?_
    exact .inl ⟨by rw [← HZ.out]; exact HZ0.out, by rw [HZ.out], HLOW.out.trans (HO7.out.below (fun k _ e => by have := HHE.out; omega) HLOW.out.size)⟩
end Go.Proofs.Ytniffijjdehnaaa
