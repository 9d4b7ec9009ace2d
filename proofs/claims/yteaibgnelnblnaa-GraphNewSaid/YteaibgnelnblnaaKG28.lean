/- Texts put together, for a law: NuC, GqL, GqW, GqX, GqY, GqZ, GqM, GqN, GqO. -/
import Derived.Shelf.SlicesE.Compact
import Derived.Lib.RowBridge
import Derived.Test.YteaibgnelnblnaaKG27
import Derived.Test.YteaibgnelnblnaaKG23
import Derived.Test.YteaibgnelnblnaaKG24
import Derived.Test.YteaibgnelnblnaaKG14
import Derived.Test.YteaibgnelnblnaaKG3
import Derived.Test.YteaibgnelnblnaaKG18
section
namespace Go.Proofs.Yteaibgnelnblnaa
open Go.RowKit Me Tx Ed Mg Va Go.Sort

theorem arr_nat (L : List Nat) (j : Nat) : L.toArray[j]! = nat_ L j := by
  unfold nat_
  rw [List.getD_eq_getElem?_getD]
  by_cases h : j < L.length
  · rw [getElem!_pos L.toArray j (by simpa using h), List.getElem?_eq_getElem h]; simp
  · rw [getElem!_neg L.toArray j (by simpa using h), List.getElem?_eq_none (by omega)]; rfl
theorem comp_rise {L : List Nat} {n : Nat} (h : So 0 n L) : ∀ m, m ≤ n → (Lib.compactUpTo L.toArray m).Pairwise (· < ·) ∧ (∀ x, x ∈ Lib.compactUpTo L.toArray m ↔ ∃ j, j < m ∧ x = nat_ L j)
  | 0, _ => ⟨by simp [Lib.compactUpTo], fun x => by simp [Lib.compactUpTo]⟩
  | m + 1, hm => by
    obtain ⟨h1, h2⟩ := comp_rise h m (by omega)
    rw [Lib.compactUpTo_succ]
    by_cases hk : Lib.keeps L.toArray m = true
    · rw [if_pos hk, arr_nat]
      refine ⟨List.pairwise_append.2 ⟨h1, List.pairwise_singleton _ _, fun x hx y hy => ?_⟩, fun x => ?_⟩
      · rw [List.mem_singleton.1 hy]
        obtain ⟨j, hj, rfl⟩ := (h2 x).1 hx
        unfold Lib.keeps at hk
        rw [arr_nat, arr_nat] at hk
        rcases of_decide_eq_true hk with e | e
        · omega
        · have h3 : nat_ L (m - 1) ≤ nat_ L m := by
            rcases Nat.eq_zero_or_pos m with h0 | h0
            · omega
            · exact h (m - 1) m (by omega) (by omega) (by omega)
          have h4 : nat_ L j ≤ nat_ L (m - 1) := by
            by_cases e2 : j = m - 1
            · rw [e2]; exact Nat.le_refl _
            · exact h j (m - 1) (by omega) (by omega) (by omega)
          have h5 : nat_ L m ≠ nat_ L (m - 1) := e
          omega
      · rw [List.mem_append, List.mem_singleton, h2]
        constructor
        · rintro (⟨j, hj, e⟩ | e)
          · exact ⟨j, by omega, e⟩
          · exact ⟨m, by omega, e⟩
        · rintro ⟨j, hj, e⟩
          by_cases e2 : j = m
          · subst e2; exact .inr e
          · exact .inl ⟨j, by omega, e⟩
    · rw [if_neg hk, List.append_nil]
      refine ⟨h1, fun x => (h2 x).trans ⟨fun ⟨j, hj, e⟩ => ⟨j, by omega, e⟩, fun ⟨j, hj, e⟩ => ?_⟩⟩
      by_cases e2 : j = m
      · subst e2
        have h0 : ¬ (j = 0 ∨ nat_ L j ≠ nat_ L (j - 1)) := by
          intro hh
          apply hk
          unfold Lib.keeps
          rw [arr_nat, arr_nat]
          exact decide_eq_true hh
        refine ⟨j - 1, by omega, ?_⟩
        rw [e]
        have := fun hh => h0 (.inr hh)
        exact Classical.byContradiction this
      · exact ⟨j, by omega, e⟩
theorem comp_len {L : List Nat} : ∀ m, (Lib.compactUpTo L.toArray m).length ≤ m
  | 0 => by simp [Lib.compactUpTo]
  | m + 1 => by
    have := comp_len (L := L) m
    rw [Lib.compactUpTo_succ, List.length_append]
    split <;> simp <;> omega
/-- Numbers, somewhere. -/
def SomeN (w : World) (l : List Nat) (e : Ending) (w' : World) : Prop :=
  ∃ A n c, e = .returned (.slice A n c) ∧ l.length = n ∧ Cs w' w'.heap.size A (nCells l) ∧ Below w.heap.size w w'
set_option maxRecDepth 100000 in
theorem compact_nil (A : Option Addr) (c : Nat) (w : World) : Calls Try.prog 42 #[.slice A 0 c] w fun e w' => e = .returned (.slice A 0 c) ∧ w' = w := by
  go_enter Try.func42, Try.ntmps42
  go_wp2
  go_ret
  exact ⟨rfl, rfl⟩
theorem ncompact_any (base : Nat) (a0 : Addr) (n c : Nat) (L : List Nat) (w : World) (h : NumAt w base a0 n c L) (hso : So 0 n L) (hn : n ≤ 1000000000) :
    Calls Try.prog 42 #[.slice (some a0) n c] w fun e w' => ∃ M : List Nat, e = .returned (.slice (some a0) M.length c) ∧ M.Pairwise (· < ·) ∧ (∀ x, x ∈ M ↔ x ∈ L) ∧ Cs w' w'.heap.size (some a0) (nCells M) ∧ NOut a0 w w' := by
  have hl := h.len
  have hb := own_bounds h.own
  by_cases h0 : n = 0
  · subst h0
    have hnil : L = [] := List.length_eq_zero_iff.1 hl
    subst hnil
    refine (compact_nil (some a0) c w).mono ?_
    rintro e w1 ⟨rfl, rfl⟩
    exact ⟨[], rfl, List.Pairwise.nil, fun x => Iff.rfl, Cs.empty, Out.refl _ _⟩
  · obtain ⟨g, hg, hgb, -, -, -⟩ := own_put (v := undef) h.own (i := 0) (by omega)
    injection hg with hg
    subst hg
    have hgl := (h.own.lt g rfl).2
    let enc : Nat → Value := fun x => .int .u32 (x : Int)
    have hds : L.toArray.size = n := by simp [hl]
    have hH : Holds enc w g 0 L.toArray := fun j hj => by
      obtain ⟨h1, h2⟩ := h.get (i := j) (by omega)
      have e1 : (⟨g, 0, none⟩ : Addr).add j = ⟨g, j, none⟩ := by simp [Addr.add]; omega
      rw [e1] at h1 h2
      rw [Nat.zero_add, arr_nat]
      exact ⟨h1, h2⟩
    have heq : EqlAt Try.prog 23 enc (fun x y => decide (x = y)) := ⟨fun x y w => by
      have h1 := (EqlAt.intD Try.prog 23 .u32).1 (x : Int) (y : Int) w
      dsimp only at h1
      rw [show decide ((x : Int) = (y : Int)) = decide (x = y) by rw [decide_eq_decide]; omega] at h1
      exact h1, fun op a b x y w => (EqlAt.intD Try.prog 23 .u32).2 op a b (x : Int) (y : Int) w⟩
    have hne : NeqAt Try.prog 23 enc (fun x y => decide (x = y)) := ⟨fun x y w => by
      have h1 := (NeqAt.intD Try.prog 23 .u32).1 (x : Int) (y : Int) w
      dsimp only at h1
      rw [show decide ((x : Int) = (y : Int)) = decide (x = y) by rw [decide_eq_decide]; omega] at h1
      exact h1, fun op a b x y w => (NeqAt.intD Try.prog 23 .u32).2 op a b (x : Int) (y : Int) w⟩
    have hcon := AnyE.slices_Compact { Try.shCompact with } enc (fun _ => rfl) heq hne 0 (fun w => Try.zeroValue23 w) g 0 c L.toArray w hH (by omega) (by omega)
    change Calls Try.prog 42 _ _ _ at hcon
    rw [hds] at hcon
    refine hcon.mono ?_
    rintro e w1 ⟨rfl, q, rfl⟩
    obtain ⟨M, hM⟩ : ∃ M, M = Lib.compactUpTo L.toArray n := ⟨_, rfl⟩
    have hml : M.length ≤ n := by rw [hM]; exact comp_len n
    rw [← hM]
    obtain ⟨h1, h2⟩ := comp_rise hso n (Nat.le_refl _)
    rw [← hM] at h1 h2
    have hlen : (M ++ List.replicate (n - M.length) 0).length = L.toArray.size := by rw [List.length_append, List.length_replicate, hds]; omega
    rw [Lib.putRow_eq_setCells enc w g 0 L.toArray _ q hH hlen]
    have hq : NumAt (w.drewN q) base ⟨g, 0, none⟩ n c L := h.past (below_drewN _ _)
    have hml2 : (M.map enc ++ (List.replicate (n - M.length) 0).map enc).length = n := by
      rw [← List.map_append, List.length_map, hlen, hds]
    have hown := own_sets ((M ++ List.replicate (n - M.length) 0).map enc) 0 hq.own (by rw [List.map_append, hml2]; omega)
    rw [setsL_all (by rw [List.map_append, hml2, nCells_length, hl])] at hown
    refine ⟨M, rfl, h1, fun x => (h2 x).trans ⟨fun ⟨j, hj, e⟩ => ?_, fun hx => ?_⟩, fun h0 => ?_, Out.setCells g _ 0 (out_drewN (fun k => k = g) w q) (.inl rfl)⟩
    · rw [e]
      exact List.mem_of_getElem? (nat_get (by rw [hl]; exact hj))
    · obtain ⟨j, hj, e⟩ := List.getElem_of_mem hx
      refine ⟨j, by omega, ?_⟩
      have := nat_get hj
      rw [List.getElem?_eq_getElem hj, e] at this
      injection this
    · obtain ⟨a, e, hb2, hc⟩ := Cs.of_own hown (by rw [List.map_append, hml2]; omega)
      refine ⟨a, e, hb2, fun i v hv => hc i v ?_⟩
      rw [List.map_append, List.getElem?_append_left (by have := (List.getElem?_eq_some_iff.1 hv).1; rw [nCells_length] at this; rw [List.length_map]; exact this)]
      exact hv
end Go.Proofs.Yteaibgnelnblnaa
end
section
namespace Go.Proofs.Yteaibgnelnblnaa
open Go.RowKit Me Tx Ed Mg Va

/-- The ends that have come so far. -/
structure ViI (H : Nat) (w : World) (O : Nat → Prop) (pre : List Nat) (W : World) : Prop where
  ex : ∃ A n c, Blk W H [.slice A n c] ∧ W.ownsRow (H + 2) 23 1 (.slice A n c) n (nCells pre) ∧ ∀ k, (Value.slice A n c).ownBlock = some k → ¬ O k
  low : ∀ k, O k → H + 2 ≤ k
  size : H + 2 ≤ W.heap.size
  out : Below w.heap.size w W
theorem ViI.stays {H : Nat} {w : World} (hH : w.heap.size = H) : Ru.Stays (ViI H w) := by
  intro O O' pre W W' h ho hk
  obtain ⟨A, n, c, h1, h2, h3⟩ := h.ex
  refine ⟨⟨A, n, c, h1.out ho (fun e => by have := h.low _ e; omega), own_out h2 ho h3, fun k e hO => (hk k hO).elim (h3 k e) (fun h => by have := (h2.lt k e).2; omega)⟩, fun k e => (hk k e).elim (h.low k) (fun e => by have := h.size; omega), Nat.le_trans h.size ho.size, ?_⟩
  exact h.out.trans (ho.below (fun k _ e => by have := h.low k e; omega) h.out.size)
attribute [local go_sem] Oper.semAt_some
set_option maxRecDepth 100000 in
set_option maxHeartbeats 4000000 in
theorem gverts_any {w : World} {lo hi n0 c0 : Nat} {g A0 : Option Addr} {l : List RwD} (h : GrAt w lo hi g A0 n0 c0 l) (hs : Sorts (endsE (edgesG l)).length) :
    Calls Try.prog 23 #[.pointer g] w (SomeN w (vertsE [] (edgesG l))) := by
  refine (callsIn_wide (n := 4)).1 ?_
  obtain ⟨H, hH⟩ : ∃ H, H = w.heap.size := ⟨_, rfl⟩
  obtain ⟨W1, hW1⟩ : ∃ W1, w.alloc (.cells #[.slice none 0 0] 45) = W1 := ⟨_, rfl⟩
  obtain ⟨W2, hW2⟩ : ∃ W2, W1.alloc (.cells #[.pointer g] 25) = W2 := ⟨_, rfl⟩
  have hs1 : W1.heap.size = H + 1 := by rw [← hW1, hH]; simp
  have hs2 : W2.heap.size = H + 2 := by rw [← hW2]; simp [hs1]
  have hb1 : Below w.heap.size w W1 := by rw [← hW1]; exact (Below.refl _ _).alloc (Nat.le_refl _) _
  have hb2 : Below w.heap.size w W2 := by rw [← hW2]; exact hb1.alloc hb1.size _
  have b0 : Blk W2 H [.slice none 0 0] := by rw [← hW2, ← hW1, hH]; exact (Blk.new w [_] _).alloc _
  have b1 : Blk W2 (H + 1) [.pointer g] := by rw [← hW2]; exact Blk.new' W1 [.pointer g] _ hs1
  obtain ⟨E, hE⟩ : ∃ E, E = edgesG l := ⟨_, rfl⟩
  have HG := Lib.hid (ends_gives (h.past hb2) b1)
  have hfw : (endsE E).length ≤ 2000000 := by rw [endsE_length, hE]; have := h.few.2; omega
  have HTP := Lib.hid h.top
  have HI0 := Lib.hid (show ∀ O : Nat → Prop, (∀ k, O k → H + 2 ≤ k) → ViI H w O [] W2 from fun O hO => ⟨⟨none, 0, 0, b0, World.ownsRow_nil _ _ _ _, fun k e => (by cases e)⟩, hO, by omega, hb2⟩)
  rw [← hE] at HG hs
  rw [← hE]
  have HFW := Lib.hid hfw
  have HSO := Lib.hid hs
  have HHE := Lib.hid hH
  have HW1 := Lib.hid hW1
  have HW2 := Lib.hid hW2
  have HS1 := Lib.hid hs1
  clear hH hW1 hW2 hs1 hb1 hb2 b0 b1 h hE hs hfw
  refine callsIn_of_wp_marks Try.func23 rfl trivial ?_ rfl
  simp only [Try.ntmps23, List.size_toArray, List.length_cons, List.length_nil, Nat.reduceAdd, Nat.reduceSub, Array.replicate_succ, Array.replicate_zero, List.push_toArray, List.append_toArray, List.nil_append, List.cons_append]
  gi_wp2_with fail
  simp only [← HHE.out]
  rw [HW1.out]
  refine ⟨trivial, (callsIn_wide.2 (gends_any g W1)).mono ?_⟩
  rintro e w' ⟨rfl, hw'⟩
  rw [hw', HW2.out, HS1.out]
  clear hw'
  gi_wp2_with fail
  refine Ru.range_gives (gf := 63) (lb := #[.pointer (some ⟨H + 1, 0, none⟩)]) rfl (Go.Proofs.enters_of Try.func63 (by kernel_rfl) rfl) HG.out (Below.refl _ _) (fun B O x av W h => by rw [show av = #[.int .u32 (x : Int)] from h]; rfl)
    (fun k => k = H) ?hS ?hM
    (ViI H w) (fun _ _ _ _ => False) (ViI.stays HHE.out.symm) (fun _ _ _ _ _ _ h => h.elim) ?hI0
    (fun O x a' W' => a' = { tmps := #[.pointer g, undef, .slice none 0 0, .pointer (some ⟨H, 0, none⟩), .int .u32 (x : Int), .pointer g, .func (.func 63) #[] #[.pointer (some ⟨H + 1, 0, none⟩)], .int .u32 (x : Int), undef, undef, undef, undef, undef, undef, undef, undef], defers := [] })
    ?hAx ?assign ?body ?done ?stop
  case hS =>
    intro k hk
    have h1 := HTP.out
    have h2 := HHE.out
    refine ⟨by omega, ?_⟩
    rintro (h | h) <;> omega
  case hM =>
    have h1 := HTP.out
    have h2 := HHE.out
    rintro k (h | h) <;> omega
  case hI0 =>
    intro O hO
    exact HI0.out O (fun k hk => by have := hO k hk; omega)
  case hAx =>
    rintro O x a' Wa Wb e ho
    exact e
  case assign =>
    rintro O l' m pre x av W' K hO hOD hOD1 hv hI ho hK
    rw [show av = #[.int .u32 (x : Int)] from hv]
    gi_wp2
    exact hK _ _ (Out.refl _ _) hI rfl
  case body =>
    rintro O l' m pre x post a' W4 hX hO hOD hOD1 ho hI rfl
    obtain ⟨A7, n7, c7, hbx, hown, hfree⟩ := hI.ex
    have t2 := hbx.cell (i := 0) rfl
    have f2 := hbx.frozen 0
    have hn7 : n7 + 1 ≤ 2000000 := by
      have h1 := HFW.out
      rw [hX, List.length_append, List.length_cons] at h1
      have h2 := hown.1
      rw [nCells_length] at h2
      omega
    obtain ⟨i0, hi0, hz0', hz1, hz2⟩ := info_parts num_info
    have HMX := Lib.hid (show n7 + 1 ≤ maxLen ∧ (n7 + 1) * 4 ≤ 140737488355328 by unfold maxLen; omega)
    have HOW := Lib.hid (own_below' hown ((Below.refl _ _).alloc (Nat.le_refl _) (.cells #[.int .u32 (x : Int)] 23)))
    have HBX := Lib.hid hbx
    have HFR := Lib.hid hfree
    have HI2 := Lib.hid hI
    have hsz4 := hI.size
    have hH2 : H < W4.heap.size := hbx.lt
    have hne : (Value.slice A7 n7 c7).ownBlock ≠ some H := fun e => by have := (hown.lt H e).1; omega
    have HNE := Lib.hid hne
    have HO := Lib.hid hO
    have HC1 := Lib.hid (cells_new W4 (nCells [x]) 23 (by simp [nCells]))
    have HON := Lib.hid (And.intro hOD hOD1)
    clear hbx hown hfree hI hO hX ho hOD hOD1 hne
    gi_wp2_with (gi_at_builtin
                 go_loud (refine wpListIn_append_both rfl (.tmp 8) (.tmp 10) 45 rfl (H + 2) 23 i0 _ 1 4 Try.underlying45 hi0 hz0' hz1 hz2 rfl (by decide) A7 n7 c7 _ rfl HOW.out ⟨W4.heap.size, 0, none⟩ 1 1 (nCells [x]) rfl rfl HC1.out nCells_one (by decide) HMX.out.1 HMX.out.2 (by rw [World.size_alloc]; omega) ?_)
                 intro v6 w6 ho6 hg6 hn6 hfit6
                 refine Classical.byContradiction fun hcontra => ?_)
    obtain ⟨A8, d8, hv8, -⟩ := own_slice' ho6
    subst hv8
    rw [← nCells_append] at ho6
    have hba : Below W4.heap.size W4 (W4.alloc (.cells #[.int .u32 (x : Int)] 23)) := (Below.refl _ _).alloc (Nat.le_refl _) _
    have hb6 := (HBX.out.past hba).grown hg6 HNE.out
    have FIN := Lib.hid (show Out (Ru.SO (fun k => k = H) W2.heap.size O) W4 (w6.setCell ⟨H, 0, none⟩ (.slice A8 (n7 + 1) d8)) ∧ ViI H w O (pre ++ [x]) (w6.setCell ⟨H, 0, none⟩ (.slice A8 (n7 + 1) d8)) from by
      have hfin : Out (fun k => k = H ∨ (Value.slice A7 n7 c7).ownBlock = some k) W4 (w6.setCell ⟨H, 0, none⟩ (.slice A8 (n7 + 1) d8)) :=
        ((Out.of_below hba).trans (Out.of_grown (S := fun k => k = H ∨ (Value.slice A7 n7 c7).ownBlock = some k) hg6 fun k e _ => .inr e)).setCell (p := ⟨H, 0, none⟩) (.inl (.inl rfl)) _
      have hne8 : (Value.slice A8 (n7 + 1) d8).ownBlock ≠ some H := fun e => by have := (ho6.lt H e).1; omega
      refine ⟨hfin.more fun k _ hk => ?_, ⟨⟨A8, n7 + 1, d8, hb6.set 0 _, ownsRow_setCell_other ho6 (a := ⟨H, 0, none⟩) hne8 _, fun k e hO => ?_⟩, HI2.out.low, Nat.le_trans hsz4 hfin.size, ?_⟩⟩
      · rcases hk with rfl | hk
        · exact .inl rfl
        · exact .inr ⟨by rw [hs2]; exact (HOW.out.lt k hk).1, HFR.out k hk⟩
      · rcases hn6 with h | h
        · rw [h] at e; exact HFR.out k e hO
        · rw [h] at e; injection e with e; have := (HO.out k hO).2; rw [World.size_alloc] at e; omega
      · exact HI2.out.out.trans (hfin.below (fun k _ hk => by
          have := HHE.out
          rcases hk with rfl | hk
          · omega
          · have := (HOW.out.lt k hk).1; omega) HI2.out.out.size))
    have e8 := hb6.cell (i := 0) rfl
    have y8 := hb6.frozen 0
    clear ho6 hg6 hn6 hfit6 hba hb6 t2 f2
    apply hcontra
    clear hcontra
    gi_wp2
    exact FIN.out
  case done =>
    rintro O D W4 hO hD hOD ho hI hK
    obtain ⟨A7, n7, c7, hbx, hown, hfree⟩ := hI.ex
    have hD3 : D = H + 2 := by rw [hD, hs2]
    subst hD3
    have q1 := hbx.cell (i := 0) rfl
    have HBX := Lib.hid hbx
    have HOW := Lib.hid hown
    have HKK := Lib.hid hK
    have HI2 := Lib.hid hI
    have HFR := Lib.hid (fun e => hfree (H + 2) e hOD)
    have hH2 : H < W4.heap.size := hbx.lt
    clear hO hD hOD ho hI hK hbx hown hfree
    cases A7 with
    | none =>
      have h0 : n7 = 0 := by
        rcases Nat.eq_zero_or_pos n7 with h | h
        · exact h
        · obtain ⟨g1, cap, hf, -, -⟩ := HOW.out.form h
          injection hf with f1
          cases f1
      subst h0
      have hE0 : endsE E = [] := by
        have := HOW.out.1
        rw [nCells_length] at this
        exact List.length_eq_zero_iff.1 (by omega)
      have hall : Out (fun k => k = H + 2) W4 (W4.putObj (H + 2) (.deferred none)) := Ru.put_out (O := fun k => k = H + 2) _ (H + 2) _ rfl
      have FIN := Lib.hid (show SomeN w (vertsE [] E) (.returned (.slice none 0 c7)) (W4.putObj (H + 2) (.deferred none)) from by
        rw [← verts_one (l := E) (m := []) List.Pairwise.nil (fun x => by rw [hE0])]
        exact ⟨none, 0, c7, rfl, rfl, Cs.empty, HI2.out.out.trans (hall.below (fun k _ hk => by have := HHE.out; omega) HI2.out.out.size)⟩)
      clear hE0 hall
      gi_wp2_with fail
      refine ⟨trivial, (callsIn_wide.2 (sort_nil none c7 W4)).mono ?_⟩
      rintro e w5 ⟨rfl, hw5⟩
      rw [hw5]
      clear hw5
      gi_wp2_with fail
      refine ⟨trivial, (callsIn_wide.2 (compact_nil none c7 W4)).mono ?_⟩
      rintro e w5 ⟨rfl, hw5⟩
      rw [hw5]
      clear hw5
      gi_wp2_with fail
      refine ⟨by simp, .inl ⟨_, _, rfl, run_takeDeferred HKK.out, ?_⟩⟩
      exact ⟨.slice none 0 c7, by simp [results, Try.results23, go_sem], FIN.out⟩
    | some a0 =>
      have hnum : NumAt W4 (H + 2) a0 n7 c7 (endsE E) := ⟨HOW.out⟩
      have hnl := hnum.len
      have HSS := Lib.hid (HSO.out (H + 2) a0 c7 (endsE E) W4)
      rw [hnl] at HSS
      have HSS2 := Lib.hid (HSS.out hnum)
      have HA0 := Lib.hid (show H + 2 ≤ a0.block ∧ a0.block ≠ H + 2 from ⟨(HOW.out.lt a0.block rfl).1, fun e => HFR.out (by show some a0.block = _; rw [e])⟩)
      have hn7 : n7 ≤ 1000000000 := by have := HFW.out; omega
      clear HSO HSS hnum hnl
      gi_wp2_with fail
      refine ⟨trivial, (callsIn_wide.2 HSS2.out).mono ?_⟩
      rintro e w5 ⟨rfl, L', hpm, hso, hnum5, ho5⟩
      have q5 := (HBX.out.out ho5 (by have := HA0.out; omega)).cell (i := 0) rfl
      have hH5 : H < w5.heap.size := Nat.lt_of_lt_of_le hH2 ho5.size
      have HCO := Lib.hid (ncompact_any (H + 2) a0 n7 c7 L' w5 hnum5 hso hn7)
      have HPM := Lib.hid hpm.perm
      have HO5 := Lib.hid ho5
      clear hpm hso hnum5 ho5 q1
      gi_wp2_with fail
      refine ⟨trivial, (callsIn_wide.2 HCO.out).mono ?_⟩
      rintro e w6 ⟨M, rfl, hM1, hM2, hcs, ho6⟩
      have hh6 : w6.heap[H + 2]? = some (.deferred (some [])) := Rt.heap_out ho6 (Rt.heap_out HO5.out HKK.out (fun e => HA0.out.2 e.symm)) (fun e => HA0.out.2 e.symm)
      have hall : Out (fun k => k = H + 2) w6 (w6.putObj (H + 2) (.deferred none)) := Ru.put_out (O := fun k => k = H + 2) _ (H + 2) _ rfl
      have FIN := Lib.hid (show SomeN w (vertsE [] E) (.returned (.slice (some a0) M.length c7)) (w6.putObj (H + 2) (.deferred none)) from by
        rw [← verts_one (l := E) (m := M) hM1 (fun x => (hM2 x).trans HPM.out.mem_iff)]
        have ho46 : Out (fun k => k = a0.block) W4 w6 := HO5.out.trans ho6
        refine ⟨some a0, M.length, c7, rfl, rfl, fun h0 => ?_, ?_⟩
        · obtain ⟨a, e, hb, hc⟩ := hcs h0
          injection e with e
          subst e
          exact ⟨a0, rfl, Nat.lt_of_lt_of_le hb hall.size, fun i v hv => (hall.cell (by rw [block_add]; exact hb) (by rw [block_add]; exact HA0.out.2)).trans (hc i v hv)⟩
        · have hb4 := HI2.out.out
          have hb6 := hb4.trans (ho46.below (B := w.heap.size) (fun k _ hk => by have := HHE.out; have := HA0.out.1; omega) hb4.size)
          exact hb6.trans (hall.below (fun k _ hk => by have := HHE.out; omega) hb6.size))
      have HH6 := Lib.hid hh6
      clear hM1 hM2 hcs ho6 hh6 hall q5
      gi_wp2_with fail
      refine ⟨by simp, .inl ⟨_, _, rfl, run_takeDeferred HH6.out, ?_⟩⟩
      exact ⟨.slice (some a0) M.length c7, by simp [results, Try.results23, go_sem], FIN.out⟩
  case stop =>
    rintro O D cc pre post W4 hO hD hOD ho hX h hK
    exact h.elim
end Go.Proofs.Yteaibgnelnblnaa
end
section
namespace Go.Proofs.Yteaibgnelnblnaa
open Go.RowKit Me Tx Ed Mg Va

theorem example_of : ofG [⟨1, 2, 3⟩, ⟨1, 2, 4⟩] = ([⟨1, [⟨2, 7⟩]⟩], 0) := by decide
theorem example_fit : ∀ x ∈ ([⟨1, 2, 3⟩, ⟨1, 2, 4⟩] : List EdD), FitE x := fun x hx => by
  simp at hx
  rcases hx with rfl | rfl <;> exact ⟨by decide, by decide, by decide⟩
set_option maxRecDepth 100000 in
set_option maxHeartbeats 2000000 in
theorem awake15_any (w : World) : Calls Try.prog 8 #[] w fun e w' => e = .returned (.bool true) ∧ Below w.heap.size w w' := by
  obtain ⟨w1, hw1⟩ : ∃ w1, w1 = w.alloc (.cells #[.int .u32 1, .int .u32 2, .int .u32 3, .int .u32 1, .int .u32 2, .int .u32 4] 58) := ⟨_, rfl⟩
  obtain ⟨H, hH⟩ : ∃ H, H = w.heap.size := ⟨_, rfl⟩
  have hb1 : Below w.heap.size w w1 := by rw [hw1]; exact (Below.refl _ _).alloc (Nat.le_refl _) _
  have hcs : Cs w1 w1.heap.size (some ⟨H, 0, none⟩) (edCells [⟨1, 2, 3⟩, ⟨1, 2, 4⟩]) := by
    rw [hw1, hH]
    have := Cs.lit w #[.int .u32 1, .int .u32 2, .int .u32 3, .int .u32 1, .int .u32 2, .int .u32 4] 58
    rwa [← World.size_alloc w (.cells #[.int .u32 1, .int .u32 2, .int .u32 3, .int .u32 1, .int .u32 2, .int .u32 4] 58)] at this
  have HOF := Lib.hid (gof_any (some ⟨H, 0, none⟩) 2 2 [⟨1, 2, 3⟩, ⟨1, 2, 4⟩] w1 rfl (by omega) hcs example_fit)
  rw [example_of] at HOF
  have HHE := Lib.hid hH
  have HW1 := Lib.hid hw1
  have HB1 := Lib.hid hb1
  clear hw1 hb1 hcs hH
  go_enter Try.func8, Try.ntmps8
  go_wp2_with fail
  rw [← HW1.out, ← HHE.out]
  refine HOF.out.mono ?_
  rintro e w2 ⟨g, A, n, c, rfl, -, hg, hb2⟩
  replace hg : GrAt w2 w1.heap.size w2.heap.size g A n c (rowM [⟨1, [⟨2, 7⟩]⟩]) := hg
  have HG := Lib.hid hg
  have HB2 := Lib.hid (HB1.out.trans (hb2.mono HB1.out.size))
  have HV := Lib.hid (gverts_any hg (sort_few (by decide)))
  have hn : n = 1 := hg.len.symm
  subst hn
  clear hg hb2
  go_wp2_with fail
  refine HV.out.mono ?_
  rintro e w3 ⟨A3, n3, c3, rfl, hl3, hc3, hb3⟩
  have HG3 := Lib.hid (HG.out.past hb3)
  have HB3 := Lib.hid (HB2.out.trans (hb3.mono HB2.out.size))
  have hve : vertsE [] (edgesG (rowM ([⟨1, [⟨2, 7⟩]⟩] : List RowR))) = [1, 2] := by decide
  have hl3' : n3 = 2 := by rw [← hl3]; show (vertsE [] (edgesG (rowM ([⟨1, [⟨2, 7⟩]⟩] : List RowR)))).length = 2; rw [hve]; rfl
  have hc3' : Cs w3 w3.heap.size A3 (nCells [1, 2]) := by rw [← hve]; exact hc3
  subst hl3'
  obtain ⟨a, x, rfl, hx, hab, y0⟩ := cs_at hc3' (k := 0) (by decide)
  obtain ⟨a', x', ea, hx', -, y1⟩ := cs_at hc3' (k := 1) (by decide)
  injection ea with ea
  subst ea
  injection hx with hx
  subst hx
  injection hx' with hx'
  subst hx'
  rw [adr_zero] at y0
  have HY := Lib.hid (show ∀ W, Below w3.heap.size w3 W → W.cell? a = some (.int .u32 1) ∧ W.cell? (a.add 1) = some (.int .u32 2) from fun W hW => ⟨(hW.cell hab).trans y0, (hW.cell (by rw [block_add]; exact hab)).trans y1⟩)
  have hN1 := gnear_any HG3.out 1 2
  rw [show nearG (arcsG (rowM ([⟨1, [⟨2, 7⟩]⟩] : List RowR)) 1) 2 = true by decide] at hN1
  have HN1 := Lib.hid hN1
  clear hl3 hc3 hc3' hb3 y0 y1 hve hab hN1
  go_wp2_with fail
  refine (glen_any HG3.out).mono ?_
  rintro e w4 ⟨rfl, hw4⟩
  rw [hw4]
  clear hw4
  go_wp2_with fail
  refine HN1.out.mono ?_
  rintro e w4 ⟨rfl, hb4⟩
  have HB4 := Lib.hid hb4
  have hN2 := gnear_any (HG3.out.past hb4) 2 1
  rw [show nearG (arcsG (rowM ([⟨1, [⟨2, 7⟩]⟩] : List RowR)) 2) 1 = false by decide] at hN2
  have HN2 := Lib.hid hN2
  clear hb4 hN2
  go_wp2_with fail
  refine HN2.out.mono ?_
  rintro e w5 ⟨rfl, hb5⟩
  have HB5 := Lib.hid (HB4.out.trans (hb5.mono HB4.out.size))
  obtain ⟨y0, y1⟩ := HY.out w5 HB5.out
  rw [show a.add 1 = ⟨a.block, a.off + 1, none⟩ from adr_at a 0] at y1
  have FIN := Lib.hid (HB3.out.trans (HB5.out.mono HB3.out.size))
  clear hb5
  go_wp2
  go_ret
  exact ⟨rfl, FIN.out⟩
end Go.Proofs.Yteaibgnelnblnaa
end
section
namespace Go.Proofs.Yteaibgnelnblnaa
open Go.RowKit Me Tx Ed Mg Va

set_option maxRecDepth 100000 in
set_option maxHeartbeats 2000000 in
theorem graphNil_law (v t : Nat) (w : World) : Calls Try.prog 7 #[.int .u32 (v : Int), .int .u32 (t : Int)] w fun e w' => e = .returned (.bool true) ∧ Below w.heap.size w w' := by
  have HG := Lib.hid (fun W : World => GrAt.none W 0)
  have HN := Lib.hid (fun W : World => (show Calls Try.prog 17 #[.pointer none, .int .u32 (v : Int), .int .u32 (t : Int)] W fun e w' => e = .returned (.bool false) ∧ Below W.heap.size W w' from gnear_any (GrAt.none W 0) v t))
  go_enter Try.func7, Try.ntmps7
  go_wp2_with fail
  refine (glen_any (HG.out w)).mono ?_
  rintro e w1 ⟨rfl, hw1⟩
  rw [hw1]
  clear hw1
  go_wp2_with fail
  refine (gArcs_any (HG.out w) v).mono ?_
  rintro e w2 ⟨A2, n2, c2, rfl, hl2, -, hb2⟩
  have hn2 : n2 = 0 := hl2.symm
  subst hn2
  have HB2 := Lib.hid hb2
  clear hl2 hb2
  go_wp2_with fail
  refine (HN.out w2).mono ?_
  rintro e w3 ⟨rfl, hb3⟩
  have HB3 := Lib.hid (HB2.out.trans (hb3.mono HB2.out.size))
  clear hb3
  go_wp2_with fail
  refine (lawrows_any (HG.out w3)).mono ?_
  rintro e w4 ⟨A4, n4, c4, vs, rfl, hr4, hb4⟩
  have hn4 : n4 = 0 := hr4.num.symm
  subst hn4
  have HB4 := Lib.hid (HB3.out.trans (hb4.mono HB3.out.size))
  clear hr4 hb4
  go_wp2_with fail
  refine (gedges_any (HG.out w4)).mono ?_
  rintro e w5 ⟨A5, n5, c5, rfl, hl5, -, hb5⟩
  have hn5 : n5 = 0 := hl5.symm
  subst hn5
  have HB5 := Lib.hid (HB4.out.trans (hb5.mono HB4.out.size))
  clear hl5 hb5
  go_wp2_with fail
  refine (gverts_any (HG.out w5) (sort_few (by simp [edgesG, endsE]))).mono ?_
  rintro e w6 ⟨A6, n6, c6, rfl, hl6, -, hb6⟩
  have hn6 : n6 = 0 := hl6.symm
  subst hn6
  have HB6 := Lib.hid (HB5.out.trans (hb6.mono HB5.out.size))
  clear hl6 hb6
  go_wp2_with fail
  refine (awake15_any w6).mono ?_
  rintro e w7 ⟨rfl, hb7⟩
  have FIN := Lib.hid (HB6.out.trans (hb7.mono HB6.out.size))
  clear hb7
  go_wp2
  go_ret
  exact ⟨rfl, FIN.out⟩
end Go.Proofs.Yteaibgnelnblnaa
end
section
namespace Go.Proofs.Yteaibgnelnblnaa
open Go.RowKit Me Tx Ed Mg Va

theorem edCells_set3 : ∀ (l : List EdD) (i : Nat) (x : EdD), (((edCells l).set (i * 3) (.int .u32 (x.src : Int))).set (i * 3 + 1) (.int .u32 (x.dst : Int))).set (i * 3 + 2) (.int .u32 (x.wgt : Int)) = edCells (l.set i x)
  | [], i, x => by simp [edCells]
  | y :: l, 0, x => by simp [edCells]
  | y :: l, i + 1, x => by
    rw [show (i + 1) * 3 = i * 3 + 1 + 1 + 1 by omega, show i * 3 + 1 + 1 + 1 + 1 = i * 3 + 1 + 1 + 1 + 1 from rfl]
    rw [List.set_cons_succ, edCells, edCells, ← edCells_set3 l i x]
    simp only [List.set_cons_succ]
theorem ed_store {w : World} {base n c g i : Nat} {l : List EdD} {e : TypeId} (h : w.ownsRow base e 3 (.slice (some ⟨g, 0, none⟩) n c) n (edCells l)) (x : EdD) :
    (((w.setCell ⟨g, i * 3, none⟩ (.int .u32 (x.src : Int))).setCell ⟨g, i * 3 + 1, none⟩ (.int .u32 (x.dst : Int))).setCell ⟨g, i * 3 + 2, none⟩ (.int .u32 (x.wgt : Int))).ownsRow base e 3 (.slice (some ⟨g, 0, none⟩) n c) n (edCells (l.set i x)) := by
  rw [← edCells_set3]
  exact (((h.stored (i * 3) _).1.stored (i * 3 + 1) _).1.stored (i * 3 + 2) _).1
theorem out_three {S : Nat → Prop} {w w' : World} {g : Nat} (h : Out S w w') (hg : S g ∨ w.heap.size ≤ g) (i j k : Nat) (u v x : Value) : Out S w (((w'.setCell ⟨g, i, none⟩ u).setCell ⟨g, j, none⟩ v).setCell ⟨g, k, none⟩ x) :=
  ((h.setCell (p := ⟨g, i, none⟩) hg u).setCell (p := ⟨g, j, none⟩) hg v).setCell (p := ⟨g, k, none⟩) hg x
theorem gok_few {l : List RwD} (h : GOk l) : ∀ r ∈ l, r.2.length ≤ 4294967296 := fun r hr => Nat.le_trans (may_few (h.full r hr).2) (by omega)
set_option maxRecDepth 100000 in
set_option maxHeartbeats 2000000 in
theorem graphOrder_law (A : Option Addr) (n c : Nat) (l : List EdD) (i k : Nat) (w : World) (hl : l.length = n) (hn : n ≤ 100) (hi : i < n) (hk : k < n) (hc : Cs w w.heap.size A (edCells l)) (hf : ∀ x ∈ l, FitE x) : Calls Try.prog 5 #[.slice A n c, .int .i64 (i : Int), .int .i64 (k : Int)] w fun e w' => e = .returned (.bool true) ∧ Below w.heap.size w w' := by
  obtain ⟨i0, hi0, hz0, hz1, hz2⟩ := info_parts ms_info
  obtain ⟨a, hA, hab, hcc⟩ := hc (by rw [edCells_length]; omega)
  subst hA
  have hb0 : Below w.heap.size w (w.alloc (.cells #[] 58)) := (Below.refl _ _).alloc (Nat.le_refl _) _
  have HL := Lib.hid hl
  have HC := Lib.hid (show ∀ W, Below w.heap.size w W → ∀ j u, (edCells l)[j]? = some u → W.cell? (a.add j) = some u from fun W hW j u hu => (hW.cell (by rw [block_add]; exact hab)).trans (hcc j u hu))
  have HAB := Lib.hid hab
  have HF := Lib.hid hf
  have HLN := Lib.hid (show (edCells l).length = n * 3 by rw [edCells_length, hl])
  have HM1 := Lib.hid (show 0 + n ≤ maxLen ∧ (0 + n) * 12 ≤ 140737488355328 by unfold maxLen; omega)
  have HO0 := Lib.hid (show (w.alloc (.cells #[] 58)).ownsRow w.heap.size 58 3 (.slice (some ⟨w.heap.size, 0, none⟩) 0 0) 0 [] from ⟨rfl, .inr ⟨w.heap.size, 0, #[], rfl, Nat.le_refl _, heap_alloc_new w _, Nat.le_refl _, by decide, rfl, rfl⟩⟩)
  have HB0 := Lib.hid hb0
  clear hl hc hcc hf hb0 hab
  go_enter Try.func5, Try.ntmps5
  have h1 : ¬ (100 : Int) < (n : Int) := by omega
  have h2 : ¬ (i : Int) < 0 := by omega
  have h3 : ¬ (k : Int) < 0 := by omega
  have h4 : ¬ (n : Int) ≤ (i : Int) := by omega
  have h5 : ¬ (n : Int) ≤ (k : Int) := by omega
  go_wp2_with (at_builtin
               go_loud (refine wpList_append_own_at _ rfl (.tmp 36) (.tmp 37) 22 rfl w.heap.size 58 i0 _ 3 12 Try.underlying22 hi0 hz0 hz1 hz2 rfl (by decide) (.slice (some ⟨w.heap.size, 0, none⟩) 0 0) 0 [] rfl HO0.out a n c (edCells l) rfl HLN.out (HC.out _ HB0.out) edCells_one HM1.out.1 HM1.out.2 HB0.out.size ?_)
               intro v2 w3 hown2 hg2 hnn2 hn2
               refine Classical.byContradiction fun hcontra => ?_)
  rw [Nat.zero_add, List.nil_append] at hown2
  obtain ⟨g, c7, hv7, hgb, -⟩ := hown2.form (by omega)
  subst hv7
  have HB3 := Lib.hid (HB0.out.grown hg2 HB0.out.size (fun j e => by cases e; exact Nat.le_refl _))
  have HO7 := Lib.hid hown2
  clear hown2 hg2 hnn2 hn2
  apply hcontra
  clear hcontra
  obtain ⟨a7, ha7⟩ : ∃ a7 : Addr, a7 = ⟨g, 0, none⟩ := ⟨_, rfl⟩
  rw [← ha7]
  have HA7 := Lib.hid ha7
  have hat7 : ∀ j, a7.add j = ⟨g, j, none⟩ := fun j => by rw [ha7]; simp [Addr.add]; omega
  have HAT := Lib.hid hat7
  obtain ⟨xi, hxi⟩ : ∃ x, l[i]? = some x := ⟨_, List.getElem?_eq_getElem (by rw [HL.out]; exact hi)⟩
  obtain ⟨xk, hxk⟩ : ∃ x, l[k]? = some x := ⟨_, List.getElem?_eq_getElem (by rw [HL.out]; exact hk)⟩
  have HXI := Lib.hid hxi
  have HXK := Lib.hid hxk
  have hsp : ∀ (b : Addr) (j : Nat), b.add (j * 3 + 1) = ⟨(b.add (j * 3)).block, (b.add (j * 3)).off + 1, none⟩ ∧ b.add (j * 3 + 2) = ⟨(b.add (j * 3)).block, (b.add (j * 3)).off + 2, none⟩ := fun b j => ⟨add_field b (j * 3) 0, add_field b (j * 3) 1⟩
  have HCW := Lib.hid (HC.out w3 HB3.out)
  obtain ⟨i0', i1', i2'⟩ := edCells_get hxi
  obtain ⟨k0', k1', k2'⟩ := edCells_get hxk
  have xi0 := HCW.out _ _ i0'
  have xi1 := HCW.out _ _ i1'
  have xi2 := HCW.out _ _ i2'
  have xk0 := HCW.out _ _ k0'
  have xk1 := HCW.out _ _ k1'
  have xk2 := HCW.out _ _ k2'
  rw [(hsp a i).1] at xi1
  rw [(hsp a i).2] at xi2
  rw [(hsp a k).1] at xk1
  rw [(hsp a k).2] at xk2
  have hcell : ∀ j, j < n * 3 → ∃ v, w3.cell? (a7.add j) = some v ∧ w3.frozen? (a7.add j) = false := fun j hj => by
    rw [hat7]
    exact ⟨_, (HO7.out.cellAt j hj).trans (List.getElem?_eq_getElem (by rw [HLN.out]; exact hj)), HO7.out.frozenAt j⟩
  obtain ⟨v0, y0, f0⟩ := hcell (i * 3) (by omega)
  obtain ⟨v1, y1, f1⟩ := hcell (i * 3 + 1) (by omega)
  obtain ⟨v2', y2, f2⟩ := hcell (i * 3 + 2) (by omega)
  obtain ⟨u0, z0, g0⟩ := hcell (k * 3) (by omega)
  obtain ⟨u1, z1, g1⟩ := hcell (k * 3 + 1) (by omega)
  obtain ⟨u2, z2, g2⟩ := hcell (k * 3 + 2) (by omega)
  -- what a store needs: the cell is there still, behind whatever stores
  have hone : ∀ {W : World} {q : Addr} {u : Value} (p : Addr) (x : Value), W.cell? q = some u → W.frozen? q = false → (∃ u', (W.setCell p x).cell? q = some u') ∧ (W.setCell p x).frozen? q = false := fun {W q u} p x h hf => by
    obtain ⟨b1, h1⟩ := cell?_setCell_some (p := p) (x := x) h
    exact ⟨⟨b1, h1⟩, by rw [World.frozen?_setCell]; exact hf⟩
  obtain ⟨⟨ep10, p1c0⟩, p1f0⟩ := hone (a7.add (i * 3)) (.int .u32 (xk.src : Int)) y1 f1
  obtain ⟨⟨ep20, p2c0⟩, p2f0⟩ := hone (a7.add (i * 3)) (.int .u32 (xk.src : Int)) y2 f2
  obtain ⟨⟨ep21, p2c1⟩, p2f1⟩ := hone (a7.add (i * 3 + 1)) (.int .u32 (xk.dst : Int)) p2c0 p2f0
  obtain ⟨⟨eq00, q0c0⟩, q0f0⟩ := hone (a7.add (i * 3)) (.int .u32 (xk.src : Int)) z0 g0
  obtain ⟨⟨eq01, q0c1⟩, q0f1⟩ := hone (a7.add (i * 3 + 1)) (.int .u32 (xk.dst : Int)) q0c0 q0f0
  obtain ⟨⟨eq02, q0c2⟩, q0f2⟩ := hone (a7.add (i * 3 + 2)) (.int .u32 (xk.wgt : Int)) q0c1 q0f1
  obtain ⟨⟨eq10, q1c0⟩, q1f0⟩ := hone (a7.add (i * 3)) (.int .u32 (xk.src : Int)) z1 g1
  obtain ⟨⟨eq11, q1c1⟩, q1f1⟩ := hone (a7.add (i * 3 + 1)) (.int .u32 (xk.dst : Int)) q1c0 q1f0
  obtain ⟨⟨eq12, q1c2⟩, q1f2⟩ := hone (a7.add (i * 3 + 2)) (.int .u32 (xk.wgt : Int)) q1c1 q1f1
  obtain ⟨⟨eq13, q1c3⟩, q1f3⟩ := hone (a7.add (k * 3)) (.int .u32 (xi.src : Int)) q1c2 q1f2
  obtain ⟨⟨eq20, q2c0⟩, q2f0⟩ := hone (a7.add (i * 3)) (.int .u32 (xk.src : Int)) z2 g2
  obtain ⟨⟨eq21, q2c1⟩, q2f1⟩ := hone (a7.add (i * 3 + 1)) (.int .u32 (xk.dst : Int)) q2c0 q2f0
  obtain ⟨⟨eq22, q2c2⟩, q2f2⟩ := hone (a7.add (i * 3 + 2)) (.int .u32 (xk.wgt : Int)) q2c1 q2f1
  obtain ⟨⟨eq23, q2c3⟩, q2f3⟩ := hone (a7.add (k * 3)) (.int .u32 (xi.src : Int)) q2c2 q2f2
  obtain ⟨⟨eq24, q2c4⟩, q2f4⟩ := hone (a7.add (k * 3 + 1)) (.int .u32 (xi.dst : Int)) q2c3 q2f3
  clear p2c0 p2f0 q0c0 q0f0 q0c1 q0f1 q1c0 q1f0 q1c1 q1f1 q1c2 q1f2 q2c0 q2f0 q2c1 q2f1 q2c2 q2f2 q2c3 q2f3 y1 y2 f1 f2 z0 z1 z2 g0 g1 g2
  simp only [(hsp a7 i).1, (hsp a7 i).2, (hsp a7 k).1, (hsp a7 k).2] at p1c0 p1f0 p2c1 p2f1 q0c2 q0f2 q1c3 q1f3 q2c4 q2f4
  clear hone hcell i0' i1' i2' k0' k1' k2' hxi hxk hat7 ha7 hsp
  go_upto_region 4 with fail
  go_region
  clear xi0 xi1 xi2 xk0 xk1 xk2 y0 f0 p1c0 p1f0 p2c1 p2f1 q0c2 q0f2 q1c3 q1f3 q2c4 q2f4
  simp only [HAT.out]
  obtain ⟨W4, hW4⟩ : ∃ W4, W4 = ((((((w3.setCell ⟨g, i * 3, none⟩ (.int .u32 (xk.src : Int))).setCell ⟨g, i * 3 + 1, none⟩ (.int .u32 (xk.dst : Int))).setCell ⟨g, i * 3 + 2, none⟩ (.int .u32 (xk.wgt : Int))).setCell ⟨g, k * 3, none⟩ (.int .u32 (xi.src : Int))).setCell ⟨g, k * 3 + 1, none⟩ (.int .u32 (xi.dst : Int))).setCell ⟨g, k * 3 + 2, none⟩ (.int .u32 (xi.wgt : Int))).drew := ⟨_, rfl⟩
  rw [← hW4]
  obtain ⟨m, hm⟩ : ∃ m, m = (l.set i xk).set k xi := ⟨_, rfl⟩
  have HPE := Lib.hid (show m.Perm l from by
    have hil : i < l.length := by rw [HL.out]; exact hi
    have hkl : k < l.length := by rw [HL.out]; exact hk
    have h1 : ((l.set i l[k]).set k l[i]).Perm l := List.set_set_perm hil hkl
    have e1 := HXI.out
    have e2 := HXK.out
    rw [List.getElem?_eq_getElem hil] at e1
    rw [List.getElem?_eq_getElem hkl] at e2
    injection e1 with e1
    injection e2 with e2
    rw [e1, e2] at h1
    rw [hm]
    exact h1)
  have HO4 := Lib.hid (show W4.ownsRow w.heap.size 58 3 (.slice (some a7) n c7) n (edCells m) from by
    rw [hW4, hm, HA7.out]
    exact own_below' (ed_store (ed_store HO7.out xk) xi) (Below.refl _ _).drew)
  have HB4 := Lib.hid (show Below w.heap.size w W4 from by
    have h1 := (out_three (out_three (Out.refl (fun j => j = g) w3) (.inl rfl) (i * 3) (i * 3 + 1) (i * 3 + 2) (.int .u32 (xk.src : Int)) (.int .u32 (xk.dst : Int)) (.int .u32 (xk.wgt : Int))) (.inl rfl) (k * 3) (k * 3 + 1) (k * 3 + 2) (.int .u32 (xi.src : Int)) (.int .u32 (xi.dst : Int)) (.int .u32 (xi.wgt : Int))).trans (out_drew _ _)
    rw [hW4]
    exact HB3.out.trans (h1.below (fun j _ e => by have e : j = g := e; omega) HB3.out.size))
  have HFM := Lib.hid (show ∀ x ∈ m, FitE x from fun x hx => HF.out x (HPE.out.mem_iff.1 hx))
  have HLM := Lib.hid (show m.length = n from by rw [HPE.out.length_eq, HL.out])
  have HEQ := Lib.hid (ofG_perm HPE.out)
  have HGA := Lib.hid (gof_any (some a) n c l W4 HL.out (by omega) (fun _ => ⟨a, rfl, Nat.lt_of_lt_of_le HAB.out HB4.out.size, HC.out W4 HB4.out⟩) HF.out)
  clear hW4 hm hi hk
  go_wp2_with fail
  refine HGA.out.mono ?_
  rintro e w5 ⟨g1, A1, n1, c1, rfl, -, hg1, hb5⟩
  have HG1 := Lib.hid hg1
  have HB5 := Lib.hid (HB4.out.trans (hb5.mono HB4.out.size))
  have HGB := Lib.hid (gof_any (some a7) n c7 m w5 HLM.out (by omega) (((Cs.of_own HO4.out).below hb5).more hb5.size) HFM.out)
  rw [HEQ.out] at HGB
  clear hg1 hb5
  go_wp2_with fail
  refine HGB.out.mono ?_
  rintro e w6 ⟨g2, A2, n2, c2, rfl, -, hg2, hb6⟩
  have HG2 := Lib.hid hg2
  have HG1' := Lib.hid (HG1.out.past hb6)
  have HB6 := Lib.hid (HB5.out.trans (hb6.mono HB5.out.size))
  obtain ⟨z, hz⟩ : ∃ z, z = (ofG l).2 := ⟨_, rfl⟩
  have d0 : (z == z) = true := by simp
  obtain ⟨R, hR⟩ : ∃ R, R = rowM (ofG l).1 := ⟨_, rfl⟩
  rw [← hz]
  replace HG1' : Hid (GrAt w6 W4.heap.size w5.heap.size g1 A1 n1 c1 R) := by rw [hR]; exact HG1'
  replace HG2 : Hid (GrAt w6 w5.heap.size w6.heap.size g2 A2 n2 c2 R) := by rw [hR]; exact HG2
  have hnn : n2 = n1 := by rw [← HG2.out.len, ← HG1'.out.len]
  subst hnn
  have hnb := HG1'.out.few.1
  clear hg2 hb6 hz hR HGA HGB HG1
  go_wp2_with fail
  refine (lawrows_any HG1'.out).mono ?_
  rintro e w7 ⟨A7, n7, c8, vs7, rfl, hr7, hb7⟩
  have HR7 := Lib.hid hr7.at
  have hn7 : R.length = n7 := hr7.num
  have HB7 := Lib.hid (HB6.out.trans (hb7.mono HB6.out.size))
  have HG27 := Lib.hid (HG2.out.past hb7)
  have HG17 := Lib.hid (HG1'.out.past hb7)
  clear hr7 hb7 HG1' HG2
  go_wp2_with fail
  refine (lawrows_any HG27.out).mono ?_
  rintro e w8 ⟨A8, n8, c9, vs8, rfl, hr8, hb8⟩
  have HR8 := Lib.hid hr8.at
  have hn8 : n8 = n7 := by rw [← hr8.num, hn7]
  subst hn8
  have HB8 := Lib.hid (HB7.out.trans (hb8.mono HB7.out.size))
  have HG28 := Lib.hid (HG27.out.past hb8)
  have HG18 := Lib.hid (HG17.out.past hb8)
  have HSM := Lib.hid (msame_any A7 A8 n8 c8 c9 R w8 hn7 (by have h1 := HG18.out.len; omega) (gok_few HG18.out.ok) (HR7.out.past hb8) HR8.out)
  clear hr8 hb8 HG17 HG27 hn7
  go_wp2_with fail
  refine HSM.out.mono ?_
  rintro e w9 ⟨rfl, hb9⟩
  have HB9 := Lib.hid (HB8.out.trans (hb9.mono HB8.out.size))
  have HG29 := Lib.hid (HG28.out.past hb9)
  have HG19 := Lib.hid (HG18.out.past hb9)
  clear hb9
  go_wp2_with fail
  refine (glen_any HG19.out).mono ?_
  rintro e w10 ⟨rfl, hw10⟩
  rw [hw10]
  clear hw10
  go_wp2_with fail
  refine (glen_any HG29.out).mono ?_
  rintro e w10 ⟨rfl, hw10⟩
  rw [hw10]
  clear hw10
  have d1 : ((n2 : Int) == (n2 : Int)) = true := by simp
  go_wp2_with fail
  refine (awake15_any w9).mono ?_
  rintro e w11 ⟨rfl, hb11⟩
  have FIN := Lib.hid (HB9.out.trans (hb11.mono HB9.out.size))
  clear hb11
  go_wp2
  go_ret
  exact ⟨rfl, FIN.out⟩
set_option maxRecDepth 100000 in
set_option maxHeartbeats 2000000 in
theorem graphOrder_all (A : Option Addr) (n c : Nat) (l : List EdD) (z0 z1 : Int) (hz0 : -9223372036854775808 ≤ z0 ∧ z0 ≤ 9223372036854775807) (hz1 : -9223372036854775808 ≤ z1 ∧ z1 ≤ 9223372036854775807) (w : World) (hl : l.length = n) (hc : Cs w w.heap.size A (edCells l)) (hf : ∀ x ∈ l, FitE x) : Calls Try.prog 5 #[.slice A n c, .int .i64 z0, .int .i64 z1] w fun e w' => e = .returned (.bool true) ∧ Below w.heap.size w w' := by
  by_cases hgood : n ≤ 100 ∧ 0 ≤ z0 ∧ 0 ≤ z1 ∧ z0 < n ∧ z1 < n
  · obtain ⟨h1, h2, h3, h4, h5⟩ := hgood
    obtain ⟨i, rfl⟩ : ∃ i : Nat, z0 = (i : Int) := ⟨z0.toNat, by omega⟩
    obtain ⟨k, rfl⟩ : ∃ k : Nat, z1 = (k : Int) := ⟨z1.toNat, by omega⟩
    exact graphOrder_law A n c l i k w hl h1 (by omega) (by omega) hc hf
  · clear hl hc hf
    have HAW := Lib.hid awake15_any
    go_enter Try.func5, Try.ntmps5
    by_cases d1 : (100 : Int) < (n : Int)
    rotate_left
    by_cases d2 : z0 < 0
    rotate_left
    by_cases d3 : z1 < 0
    rotate_left
    by_cases d4 : (n : Int) ≤ z0
    rotate_left
    have d5 : (n : Int) ≤ z1 := by omega
    all_goals
      clear hgood
      go_wp2_with fail
      refine (HAW.out w).mono ?_
      rintro e w1 ⟨rfl, hb1⟩
      have FIN := Lib.hid hb1
      clear hb1
      go_wp2
      go_ret
      exact ⟨rfl, FIN.out⟩
end Go.Proofs.Yteaibgnelnblnaa
end
section
namespace Go.Proofs.Yteaibgnelnblnaa
open Go.RowKit Me Tx Ed Mg Va

theorem newQ_ok {l : List RwD} (h : GOk l) : newQ l = (l, 0) := by unfold newQ; rw [if_pos h.new]
set_option maxRecDepth 100000 in
set_option maxHeartbeats 2000000 in
theorem graphAgain_law (A : Option Addr) (n c : Nat) (l : List EdD) (w : World) (hl : l.length = n) (hc : Cs w w.heap.size A (edCells l)) (hf : ∀ x ∈ l, FitE x) : Calls Try.prog 6 #[.slice A n c] w fun e w' => e = .returned (.bool true) ∧ Below w.heap.size w w' := by
  have HAW := Lib.hid awake15_any
  by_cases g1 : (100 : Int) < (n : Int)
  · clear hl hc hf
    go_enter Try.func6, Try.ntmps6
    go_wp2_with fail
    refine (HAW.out w).mono ?_
    rintro e w1 ⟨rfl, hb1⟩
    have FIN := Lib.hid hb1
    clear hb1
    go_wp2
    go_ret
    exact ⟨rfl, FIN.out⟩
  have hn : n ≤ 100 := by omega
  have HL := Lib.hid hl
  have HOF := Lib.hid (gof_any A n c l w hl (by omega) hc hf)
  clear hl hc hf
  go_enter Try.func6, Try.ntmps6
  go_wp2_with fail
  refine HOF.out.mono ?_
  rintro e w2 ⟨g, A2, n2, c2, rfl, hnil, hg, hb2⟩
  dsimp only at hnil hg
  have HB2 := Lib.hid hb2
  obtain ⟨z, hz⟩ : ∃ z, z = (ofG l).2 := ⟨_, rfl⟩
  rw [← hz] at hnil
  rw [← hz]
  by_cases hz0 : z = 0
  rotate_left
  · have d0 : (z != 0) = true := by simp [hz0]
    have hgn := hnil hz0
    subst hgn
    clear hnil hg hz hz0 hb2 HOF
    go_wp2_with fail
    refine (HAW.out w2).mono ?_
    rintro e w3 ⟨rfl, hb3⟩
    have FIN := Lib.hid (HB2.out.trans (hb3.mono HB2.out.size))
    clear hb3
    go_wp2
    go_ret
    exact ⟨rfl, FIN.out⟩
  · have d0 : (z != 0) = false := by simp [hz0]
    have hok := ofG_good (hz.symm.trans hz0)
    obtain ⟨Q, hQ⟩ : ∃ Q, Q = (ofG l).1 := ⟨_, rfl⟩
    rw [← hQ] at hok hg
    have HOK := Lib.hid hok
    obtain ⟨R, hR⟩ : ∃ R, R = rowM Q := ⟨_, rfl⟩
    rw [← hR] at hg
    have HG := Lib.hid hg
    have HRE := Lib.hid hR
    have HGO := Lib.hid (show GOk R by rw [hR]; exact hok.graph)
    have HSH := Lib.hid (show (edgesG R).length ≤ 100 by rw [hR]; have := hok.short; rw [HL.out] at this; omega)
    have HAG := Lib.hid (show ofG (edgesG R) = (Q, 0) by rw [hR]; exact hok.again)
    have HED := Lib.hid (gedges_any hg)
    have HFI := Lib.hid (rows_fit hg.rows)
    clear hnil hg hz hz0 hb2 HOF hok hQ hR
    go_wp2_with fail
    refine HED.out.mono ?_
    rintro e w3 ⟨A3, n3, c3, rfl, hl3, ho3, hb3⟩
    have HB3 := Lib.hid (HB2.out.trans (hb3.mono HB2.out.size))
    have HG3 := Lib.hid (HG.out.past hb3)
    have HOF3 := Lib.hid (gof_any A3 n3 c3 (edgesG R) w3 hl3 (by have := HSH.out; omega) (Cs.of_own ho3) HFI.out)
    rw [HAG.out] at HOF3
    dsimp only at HOF3
    rw [← HRE.out] at HOF3
    clear hl3 ho3 hb3 HED
    go_wp2_with fail
    refine HOF3.out.mono ?_
    rintro e w4 ⟨g4, A4, n4, c4, rfl, -, hg4, hb4⟩
    replace hg4 : GrAt w4 w3.heap.size w4.heap.size g4 A4 n4 c4 R := hg4
    have HB4 := Lib.hid (HB3.out.trans (hb4.mono HB3.out.size))
    have HG4 := Lib.hid (HG3.out.past hb4)
    have HA4 := Lib.hid hg4
    clear hg4 hb4 HOF3 HG3 HG
    go_wp2_with fail
    refine (lawrows_any HG4.out).mono ?_
    rintro e w5 ⟨A5, n5, c5, vs5, rfl, hr5, hb5⟩
    have HB5 := Lib.hid (HB4.out.trans (hb5.mono HB4.out.size))
    have HG5 := Lib.hid (HG4.out.past hb5)
    have HA5 := Lib.hid (HA4.out.past hb5)
    have HNW := Lib.hid (gnew_any (c := c5) hr5.num (by have h1 := edges_few HGO.out; have h2 := HSH.out; have h3 := hr5.num; omega) (gok_few HGO.out) (by have := HSH.out; omega) hr5.at)
    rw [newQ_ok HGO.out] at HNW
    clear hr5 hb5 HG4 HA4
    go_wp2_with fail
    refine HNW.out.mono ?_
    rintro e w6 ⟨g6, A6, n6, c6, rfl, -, hg6, hb6⟩
    replace hg6 : GrAt w6 w5.heap.size w6.heap.size g6 A6 n6 c6 R := hg6
    have HB6 := Lib.hid (HB5.out.trans (hb6.mono HB5.out.size))
    have HG6 := Lib.hid (HG5.out.past hb6)
    have HA6 := Lib.hid (HA5.out.past hb6)
    have HN6 := Lib.hid hg6
    have hnb : R.length ≤ 4294967296 := by have h1 := edges_few HGO.out; have h2 := HSH.out; omega
    have HNB := Lib.hid hnb
    clear hg6 hb6 HNW HG5 HA5 hnb
    go_wp2_with fail
    refine (lawrows_any HA6.out).mono ?_
    rintro e w7 ⟨A7, n7, c7, vs7, rfl, hr7, hb7⟩
    have HR7 := Lib.hid hr7.at
    have hn7 := hr7.num
    subst hn7
    have HB7 := Lib.hid (HB6.out.trans (hb7.mono HB6.out.size))
    have HG7 := Lib.hid (HG6.out.past hb7)
    have HN7 := Lib.hid (HN6.out.past hb7)
    clear hr7 hb7 HG6 HN6
    go_wp2_with fail
    refine (lawrows_any HG7.out).mono ?_
    rintro e w8 ⟨A8, n8, c8, vs8, rfl, hr8, hb8⟩
    have hn8 := hr8.num
    subst hn8
    have HB8 := Lib.hid (HB7.out.trans (hb8.mono HB7.out.size))
    have HG8 := Lib.hid (HG7.out.past hb8)
    have HN8 := Lib.hid (HN7.out.past hb8)
    have HSM := Lib.hid (msame_any A7 A8 R.length c7 c8 R w8 rfl HNB.out (gok_few HGO.out) (HR7.out.past hb8) hr8.at)
    clear hr8 hb8 HG7 HN7
    go_wp2_with fail
    refine HSM.out.mono ?_
    rintro e w9 ⟨rfl, hb9⟩
    have HB9 := Lib.hid (HB8.out.trans (hb9.mono HB8.out.size))
    have HG9 := Lib.hid (HG8.out.past hb9)
    have HN9 := Lib.hid (HN8.out.past hb9)
    clear hb9 HG8 HN8 HSM
    go_wp2_with fail
    refine (lawrows_any HN9.out).mono ?_
    rintro e w10 ⟨A10, n10, c10, vs10, rfl, hr10, hb10⟩
    have HR10 := Lib.hid hr10.at
    have hn10 := hr10.num
    subst hn10
    have HB10 := Lib.hid (HB9.out.trans (hb10.mono HB9.out.size))
    have HG10 := Lib.hid (HG9.out.past hb10)
    clear hr10 hb10 HG9 HN9
    go_wp2_with fail
    refine (lawrows_any HG10.out).mono ?_
    rintro e w11 ⟨A11, n11, c11, vs11, rfl, hr11, hb11⟩
    have hn11 := hr11.num
    subst hn11
    have HB11 := Lib.hid (HB10.out.trans (hb11.mono HB10.out.size))
    have HSM := Lib.hid (msame_any A10 A11 R.length c10 c11 R w11 rfl HNB.out (gok_few HGO.out) (HR10.out.past hb11) hr11.at)
    clear hr11 hb11 HG10
    go_wp2_with fail
    refine HSM.out.mono ?_
    rintro e w12 ⟨rfl, hb12⟩
    have HB12 := Lib.hid (HB11.out.trans (hb12.mono HB11.out.size))
    clear hb12 HSM
    go_wp2_with fail
    refine (HAW.out w12).mono ?_
    rintro e w13 ⟨rfl, hb13⟩
    have FIN := Lib.hid (HB12.out.trans (hb13.mono HB12.out.size))
    clear hb13
    go_wp2
    go_ret
    exact ⟨rfl, FIN.out⟩
end Go.Proofs.Yteaibgnelnblnaa
end
section
namespace Go.Proofs.Yteaibgnelnblnaa
open Go.RowKit Me Tx Ed Mg Va

theorem RwsW.blk {w : World} {lo : Nat} {A : Option Addr} {n c : Nat} {l : List RwD} {vs : List RwV} (h : RwsW w lo A n c l vs) {p : RwV} (hp : p ∈ vs) (h0 : 0 < p.2.2.1) {a : Addr} (e : p.2.1 = some a) : lo ≤ a.block ∧ a.block < w.heap.size := by
  obtain ⟨i, hi, hie⟩ := List.getElem_of_mem hp
  have hr : i < l.length := by rw [← h.len]; exact hi
  have h1 := h.rows i p l[i] (by rw [List.getElem?_eq_getElem hi, hie]) (List.getElem?_eq_getElem hr)
  obtain ⟨v, hv, -⟩ := h.wr p hp a e 0 (by omega)
  have := World.block_lt_of_cell? _ _ hv
  rw [block_add] at this
  exact ⟨h1.low a e, this⟩
theorem RwsW.push {W W6 : World} {lo : Nat} {A A7 : Option Addr} {n c d7 : Nat} {l : List RwD} {vs : List RwV} {p : RwV} {r : RwD} (h : RwsW W lo A n c l vs) (hr : RwAt W lo W.heap.size p r) (hrA : W.ownsRow lo 55 2 (.slice p.2.1 p.2.2.1 p.2.2.2) p.2.2.1 (arcCells r.2))
    (ho : W6.ownsRow lo 51 2 (.slice A7 (n + 1) d7) (n + 1) (rvCells vs ++ [.int .u32 (p.1 : Int), .slice p.2.1 p.2.2.1 p.2.2.2])) (hg : W.grownBy W6 (Value.slice A n c).ownBlock) (hn : (Value.slice A7 (n + 1) d7).ownBlock = (Value.slice A n c).ownBlock ∨ (Value.slice A7 (n + 1) d7).ownBlock = some W.heap.size) :
    RwsW W6 lo A7 (n + 1) d7 (l ++ [r]) (vs ++ [p]) := by
  have og : Out (fun k => (Value.slice A n c).ownBlock = some k) W W6 := Out.of_grown hg fun k e _ => e
  have hpo : 0 < p.2.2.1 → ∀ a, p.2.1 = some a → (Value.slice A n c).ownBlock ≠ some a.block := fun h0 a e h2 => own_apart h.own hrA (by decide) h2 (by rw [e]; rfl)
  have hpb : 0 < p.2.2.1 → ∀ a, p.2.1 = some a → a.block < W.heap.size := fun h0 a e => (hrA.lt a.block (by rw [e]; rfl)).2
  have hnew : ∀ k, k < W.heap.size → (Value.slice A n c).ownBlock ≠ some k → (Value.slice A7 (n + 1) d7).ownBlock ≠ some k := fun k hk hne e => by
    rcases hn with e' | e'
    · rw [e'] at e; exact hne e
    · rw [e'] at e; injection e with e; omega
  refine ⟨by rw [rvCells_append]; exact ho, by rw [List.length_append, List.length_append, h.len]; rfl, by rw [List.length_append, h.num]; rfl, fun i q s hq hs => ?_, fun q hq => ?_, fun q hq h0 a e => ?_⟩
  · rcases Nat.lt_or_ge i vs.length with hi | hi
    · rw [List.getElem?_append_left hi] at hq
      rw [List.getElem?_append_left (by rw [← h.len]; exact hi)] at hs
      exact (h.rows i q s hq hs).kept og fun h0 a e => h.off q (List.mem_of_getElem? hq) (by rw [← (h.rows i q s hq hs).len]; exact h0) a e
    · have hi2 : i = vs.length := by
        have := (List.getElem?_eq_some_iff.1 hq).1
        simp at this
        omega
      subst hi2
      rw [List.getElem?_append_right (Nat.le_refl _), Nat.sub_self] at hq
      rw [List.getElem?_append_right (by rw [h.len]; exact Nat.le_refl _), h.len, Nat.sub_self] at hs
      injection hq with hq
      injection hs with hs
      subst hq hs
      exact hr.kept og fun h0 a e => hpo (by rw [← hr.len]; exact h0) a e
  · rcases List.mem_append.1 hq with hq | hq
    · exact (h.wr q hq).out og fun h0 a e => h.off q hq h0 a e
    · rw [List.mem_singleton.1 hq]
      exact (WrR.own (s := p.1) hrA).out og fun h0 a e => hpo h0 a e
  · rcases List.mem_append.1 hq with hq | hq
    · exact hnew _ (h.blk hq h0 e).2 (h.off q hq h0 a e)
    · rw [List.mem_singleton.1 hq] at h0 e
      exact hnew _ (hpb h0 a e) (hpo h0 a e)
set_option maxRecDepth 100000 in
set_option maxHeartbeats 1000000 in
theorem few15_any {lo : Nat} {A : Option Addr} {n c : Nat} {l : List RwD} {w : World} (hl : l.length = n) (hr : RowsAt w lo w.heap.size A l) :
    Calls Try.prog 25 #[.slice A n c] w fun e w' => (∃ b, e = .returned (.bool b) ∧ (b = true → n ≤ 50 ∧ ∀ r ∈ l, r.2.length ≤ 50)) ∧ Below w.heap.size w w' := by
  have HL := Lib.hid hl
  have HR := Lib.hid hr
  clear hl hr
  go_enter Try.func25, Try.ntmps25
  by_cases hn : (50 : Int) < (n : Int)
  · go_wp2
    go_ret
    exact ⟨⟨false, rfl, fun h => by cases h⟩, Below.refl _ _⟩
  have hn2 : n ≤ 50 := by omega
  go_wp2
  go_loopw [3] (fun kv wr => ∃ k : Nat, kv = .int .i64 (k : Int) ∧ k ≤ n ∧ Hid (∀ j r, j < k → l[j]? = some r → r.2.length ≤ 50) ∧ Hid (Below w.heap.size w wr)) (fun kv _ => n - (intOf kv).toNat)
  case atStart => exact ⟨0, rfl, Nat.zero_le _, Lib.hid (fun j r hj => by omega), Lib.hid (Below.refl _ _)⟩
  case round =>
    obtain ⟨k, rfl, hk, HI, HB⟩ := hrel
    by_cases hlt : k < n
    · obtain ⟨a, ⟨s0, P, n1, c2⟩, r, rfl, hr, -, c0, c1', hat⟩ := (HR.out.below HB.out).at (k := k) (by rw [HL.out]; exact hlt)
      dsimp only at c0 c1' hat
      have hlt2 : (k : Int) < (n : Int) := by omega
      have hln : r.2.length = n1 := hat.len
      by_cases hb : (50 : Int) < (n1 : Int)
      · clear hat hr hln
        go_wp2
        go_ret
        exact ⟨⟨false, rfl, fun h => by cases h⟩, HB.out⟩
      · have HI2 := Lib.hid (show ∀ j s, j < k + 1 → l[j]? = some s → s.2.length ≤ 50 from fun j s hj hs => by
          by_cases hjk : j < k
          · exact HI.out j s hjk hs
          · have e : j = k := by omega
            subst e
            rw [hr] at hs
            injection hs with hs
            rw [← hs]
            omega)
        clear hat hr hln
        go_wp2
        go_roundw
        case rel => exact ⟨k + 1, by go_num, by omega, HI2, HB⟩
        case measure => simp [intOf]; omega
    · have e : k = n := by omega
      subst e
      have FIN := Lib.hid (show ∀ r ∈ l, r.2.length ≤ 50 from fun r hr => by
        obtain ⟨i, hi, e⟩ := List.getElem_of_mem hr
        have h1 := HL.out
        exact HI.out i r (by omega) (by rw [List.getElem?_eq_getElem hi, e]))
      go_wp2
      go_ret
      exact ⟨⟨true, rfl, fun _ => ⟨hn2, FIN.out⟩⟩, HB.out⟩
end Go.Proofs.Yteaibgnelnblnaa
end
section
namespace Go.Proofs.Yteaibgnelnblnaa
open Go.RowKit Me Tx Ed Mg Va

abbrev Sl3 := Option Addr × Nat × Nat
/-- Rows of one's own, whatever they hold: their slices are known, all of it can be written. -/
structure OpR (w : World) (lo hi : Nat) (A : Option Addr) (n c : Nat) (ss : List Sl3) : Prop where
  ex : ∃ xs : List Value, w.ownsRow lo 51 2 (.slice A n c) n xs ∧ ∀ (i : Nat) (s : Sl3), ss[i]? = some s → (∃ z : Int, xs[i * 2]? = some (.int .u32 z)) ∧ xs[i * 2 + 1]? = some (.slice s.1 s.2.1 s.2.2)
  num : ss.length = n
  blk : ∀ k, (Value.slice A n c).ownBlock = some k → k < hi
  wr : ∀ s ∈ ss, s.2.1 ≤ 9223372036854775807 ∧ WrR w (0, s) ∧ (0 < s.2.1 → ∀ a, s.1 = some a → lo ≤ a.block ∧ a.block < hi ∧ (Value.slice A n c).ownBlock ≠ some a.block) ∧ (0 < s.2.1 → ∃ a, s.1 = some a)
variable {w w' : World} {lo hi n c : Nat} {A : Option Addr} {ss : List Sl3}
theorem OpR.of {l : List RwD} {vs : List RwV} (h : RwsW w lo A n c l vs) : OpR w lo w.heap.size A n c (vs.map (·.2)) :=
  ⟨⟨_, h.own, fun i s hs => by
    rw [List.getElem?_map] at hs
    obtain ⟨p, hp, e⟩ := Option.map_eq_some_iff.1 hs
    obtain ⟨h1, h2⟩ := rvCells_get hp
    rw [← e]
    exact ⟨⟨_, h1⟩, h2⟩⟩, by rw [List.length_map, h.len, h.num], fun k e => (h.own.lt k e).2, fun s hs => by
    obtain ⟨p, hp, rfl⟩ := List.mem_map.1 hs
    obtain ⟨i, hi, hie⟩ := List.getElem_of_mem hp
    have hr : i < l.length := by rw [← h.len]; exact hi
    have h1 := h.rows i p l[i] (by rw [List.getElem?_eq_getElem hi, hie]) (List.getElem?_eq_getElem hr)
    exact ⟨Nat.le_trans h1.cap.1 h1.cap.2, fun a e => h.wr p hp a e, fun h0 a e => ⟨(h.blk hp h0 e).1, (h.blk hp h0 e).2, h.off p hp h0 a e⟩, fun h0 => by
      obtain ⟨a, _, e, -⟩ := h1.arcs.at (k := 0) (by rw [h1.len]; exact h0)
      exact ⟨a, e⟩⟩⟩
theorem OpR.out {T : Nat → Prop} (h : OpR w lo hi A n c ss) (ho : Out T w w') (hT : ∀ k, T k → k < lo ∨ hi ≤ k) : OpR w' lo hi A n c ss := by
  obtain ⟨xs, h1, h2⟩ := h.ex
  exact ⟨⟨xs, own_out h1 ho fun k e t => by
    have := (h1.lt k e).1
    have := h.blk k e
    have := hT k t
    omega, h2⟩, h.num, h.blk, fun s hs => by
    obtain ⟨a1, a2, a3, a4⟩ := h.wr s hs
    exact ⟨a1, a2.out ho fun h0 a e t => by
      have := a3 h0 a e
      have := hT _ t
      omega, a3, a4⟩⟩
theorem OpR.past (h : OpR w lo hi A n c ss) (hb : Below w.heap.size w w') : OpR w' lo hi A n c ss := h.out (T := fun _ => False) (.of_below hb) fun _ h => h.elim
/-- A row's cells. -/
theorem OpR.at {k : Nat} (h : OpR w lo hi A n c ss) (hk : k < n) : ∃ (a : Addr) (s : Sl3) (z : Int), A = some a ∧ ss[k]? = some s ∧ lo ≤ a.block ∧ a.block < hi ∧ w.cell? (a.add (k * 2)) = some (.int .u32 z) ∧ w.frozen? (a.add (k * 2)) = false ∧
    w.cell? ⟨(a.add (k * 2)).block, (a.add (k * 2)).off + 1, none⟩ = some (.slice s.1 s.2.1 s.2.2) := by
  obtain ⟨xs, h1, h2⟩ := h.ex
  obtain ⟨g, cap, hf, hg, -⟩ := h1.form (by omega)
  injection hf with f1 f2 f3
  subst f1 f3
  have hs : k < ss.length := by rw [h.num]; exact hk
  obtain ⟨⟨z, hz⟩, hy⟩ := h2 k ss[k] (List.getElem?_eq_getElem hs)
  have e1 : (⟨g, 0, none⟩ : Addr).add (k * 2) = ⟨g, k * 2, none⟩ := by simp [Addr.add]; omega
  have hxl : k * 2 < n * 2 := by omega
  have hxl2 : k * 2 + 1 < n * 2 := by omega
  refine ⟨⟨g, 0, none⟩, ss[k], z, rfl, List.getElem?_eq_getElem hs, hg, h.blk g rfl, ?_, ?_, ?_⟩
  · rw [e1]; exact (h1.cellAt _ hxl).trans hz
  · rw [e1]; exact h1.frozenAt _
  · rw [e1]; exact (h1.cellAt _ hxl2).trans hy
theorem OpR.set0 {k : Nat} {a : Addr} (h : OpR w lo hi A n c ss) (hk : k < n) (ha : A = some a) (z : Int) : OpR (w.setCell (a.add (k * 2)) (.int .u32 z)) lo hi A n c ss := by
  obtain ⟨xs, h1, h2⟩ := h.ex
  obtain ⟨g, cap, hf, hg, -⟩ := h1.form (by omega)
  injection hf with f1 f2 f3
  subst f1 f3
  injection ha with ha
  subst ha
  have e1 : (⟨g, 0, none⟩ : Addr).add (k * 2) = ⟨g, k * 2, none⟩ := by simp [Addr.add]; omega
  rw [e1]
  refine ⟨⟨_, (h1.stored (k * 2) _).1, fun i s hs => ?_⟩, h.num, h.blk, fun s hs => ⟨(h.wr s hs).1, (h.wr s hs).2.1.set _ _, (h.wr s hs).2.2⟩⟩
  obtain ⟨⟨z', hz⟩, hy⟩ := h2 i s hs
  have hl := h1.1
  refine ⟨?_, ?_⟩
  · by_cases e : k = i
    · subst e
      exact ⟨z, List.getElem?_set_self (by rw [hl]; omega)⟩
    · exact ⟨z', by rw [List.getElem?_set_ne (by omega)]; exact hz⟩
  · rw [List.getElem?_set_ne (by omega)]
    exact hy
theorem OpR.setO {q : Addr} (h : OpR w lo hi A n c ss) (hq : (Value.slice A n c).ownBlock ≠ some q.block) (v : Value) : OpR (w.setCell q v) lo hi A n c ss := by
  obtain ⟨xs, h1, h2⟩ := h.ex
  exact ⟨⟨xs, ownsRow_setCell_other h1 hq v, h2⟩, h.num, h.blk, fun s hs => ⟨(h.wr s hs).1, (h.wr s hs).2.1.set _ _, (h.wr s hs).2.2⟩⟩
/-- What a store leaves: the argument's memory, a graph elsewhere. -/
structure Aside (w0 : World) (lo hi : Nat) (g A : Option Addr) (n c : Nat) (l : List RwD) (w : World) : Prop where
  old : Below w0.heap.size w0 w
  gr : GrAt w lo hi g A n c l
theorem Aside.past {w0 : World} {g : Option Addr} {l : List RwD} (h : Aside w0 lo hi g A n c l w) (hb : Below w.heap.size w w') : Aside w0 lo hi g A n c l w' := ⟨h.old.trans (hb.mono h.old.size), h.gr.past hb⟩
theorem Aside.set {w0 : World} {g : Option Addr} {l : List RwD} (h : Aside w0 lo hi g A n c l w) {q : Addr} (h1 : w0.heap.size ≤ q.block) (h2 : q.block < lo ∨ hi ≤ q.block) (v : Value) : Aside w0 lo hi g A n c l (w.setCell q v) := by
  have ho : Out (fun k => k = q.block) w (w.setCell q v) := (Out.refl (fun k => k = q.block) w).setCell (p := q) (.inl rfl) v
  exact ⟨h.old.trans (ho.below (fun k _ e => by rw [e]; exact h1) h.old.size), h.gr.out ho fun k e => by rw [e]; exact h2⟩
/-- Arcs of one's own, whatever they hold. -/
def OpA (w : World) (B : Nat) (A : Option Addr) (n c : Nat) : Prop := ∃ xs, w.ownsRow B 55 2 (.slice A n c) n xs
theorem OpA.at {B k : Nat} (h : OpA w B A n c) (hk : k < n) : ∃ (a : Addr) (u v : Value), A = some a ∧ B ≤ a.block ∧ w.cell? (a.add (k * 2)) = some u ∧ w.frozen? (a.add (k * 2)) = false ∧ w.cell? ⟨(a.add (k * 2)).block, (a.add (k * 2)).off + 1, none⟩ = some v ∧ w.frozen? ⟨(a.add (k * 2)).block, (a.add (k * 2)).off + 1, none⟩ = false ∧
    ∀ x y, OpA ((w.setCell (a.add (k * 2)) x).setCell ⟨(a.add (k * 2)).block, (a.add (k * 2)).off + 1, none⟩ y) B A n c := by
  obtain ⟨xs, h1⟩ := h
  obtain ⟨g, cap, hf, hg, -⟩ := h1.form (by omega)
  injection hf with f1 f2 f3
  subst f1 f3
  have hl := h1.1
  have e1 : (⟨g, 0, none⟩ : Addr).add (k * 2) = ⟨g, k * 2, none⟩ := by simp [Addr.add]; omega
  refine ⟨⟨g, 0, none⟩, xs[k * 2]'(by omega), xs[k * 2 + 1]'(by omega), rfl, hg, ?_, ?_, ?_, ?_, fun x y => ?_⟩
  · rw [e1]; exact (h1.cellAt _ (by omega)).trans (List.getElem?_eq_getElem (by omega))
  · rw [e1]; exact h1.frozenAt _
  · rw [e1]; exact (h1.cellAt (k * 2 + 1) (by omega)).trans (List.getElem?_eq_getElem (by omega))
  · rw [e1]; exact h1.frozenAt _
  · rw [e1]; exact ⟨_, ((h1.stored (k * 2) x).1.stored (k * 2 + 1) y).1⟩
/-- An arc's two cells in a row's slice. -/
theorem WrR.two {a : Addr} {s : Sl3} {j : Nat} (h : WrR w (0, s)) (ha : s.1 = some a) (hj : j < s.2.1) : ∃ u v, w.cell? (a.add (j * 2)) = some u ∧ w.frozen? (a.add (j * 2)) = false ∧ w.cell? ⟨(a.add (j * 2)).block, (a.add (j * 2)).off + 1, none⟩ = some v ∧ w.frozen? ⟨(a.add (j * 2)).block, (a.add (j * 2)).off + 1, none⟩ = false := by
  obtain ⟨u, h1, h2⟩ := h a ha (j * 2) (by show j * 2 < s.2.1 * 2; omega)
  obtain ⟨v, h3, h4⟩ := h a ha (j * 2 + 1) (by show j * 2 + 1 < s.2.1 * 2; omega)
  rw [show a.add (j * 2 + 1) = ⟨(a.add (j * 2)).block, (a.add (j * 2)).off + 1, none⟩ from add_field a (j * 2) 0] at h3 h4
  exact ⟨u, v, h1, h2, h3, h4⟩
end Go.Proofs.Yteaibgnelnblnaa
end
section
namespace Go.Proofs.Yteaibgnelnblnaa
open Go.RowKit Me Tx Ed Mg Va

theorem RwsW.past {w w' : World} {lo : Nat} {A : Option Addr} {n c : Nat} {l : List RwD} {vs : List RwV} (h : RwsW w lo A n c l vs) (hb : Below w.heap.size w w') : RwsW w' lo A n c l vs :=
  ⟨own_below' h.own hb, h.len, h.num, fun i p r hp hr => ((h.rows i p r hp hr).below hb).more hb.size, fun p hp => (h.wr p hp).out (T := fun _ => False) (.of_below hb) fun _ _ _ h => h, h.off⟩
theorem edges_le {l : List RwD} {m : Nat} (h : ∀ r ∈ l, r.2.length ≤ m) : (edgesG l).length ≤ l.length * m := by
  induction l with
  | nil => simp [edgesG]
  | cons r l ih =>
    have h1 := ih fun q hq => h q (List.mem_cons_of_mem _ hq)
    have h2 := h r List.mem_cons_self
    have e : edgesG (r :: l) = edsR r ++ edgesG l := by simp [edgesG]
    rw [e, List.length_append, edsR_length, List.length_cons, Nat.add_mul]
    omega
theorem newQ_snd (l : List RwD) : (newQ l).2 = newG none l := by
  unfold newQ
  split
  · rename_i h; exact h.symm
  · rfl
theorem newQ_fst {l : List RwD} (h : newG none l = 0) : (newQ l).1 = l := by unfold newQ; rw [if_pos h]
/-- What is known of each slot where a row is put behind, its arcs anew. -/
def gnG (H k n c s n1 c2 c1 : Nat) (a : Addr) (A1 P : Option Addr) (L : List ArcD) : Gw.Fact := fun t v W =>
  match t with
  | 0 | 29 | 35 => v = .slice (some a) n c
  | 6 | 30 | 36 => v = .int .i64 (k : Int)
  | 5 | 28 => v = .slice A1 k c1
  | 31 | 32 | 37 => v = .pointer (some (a.add (k * 2)))
  | 33 => v = .int .u32 (s : Int)
  | 38 => v = .pointer (some ⟨(a.add (k * 2)).block, (a.add (k * 2)).off + 1, none⟩)
  | 39 => v = .slice P n1 c2
  | 34 => ∃ g, v = .slice (some ⟨g, 0, none⟩) 0 0 ∧ W.ownsRow H 55 2 v 0 []
  | 40 => ∃ (A3 : Option Addr) (d3 : Nat), v = .slice A3 n1 d3 ∧ W.ownsRow H 55 2 (.slice A3 n1 d3) n1 (arcCells L)
  | 41 => ∃ (A3 : Option Addr) (d3 : Nat), v = .agg #[.int .u32 (s : Int), .slice A3 n1 d3] ∧ W.ownsRow H 55 2 (.slice A3 n1 d3) n1 (arcCells L)
  | 42 => ∃ (f : Nat) (A3 : Option Addr) (d3 : Nat), v = .slice (some ⟨f, 0, none⟩) 1 1 ∧ Cs W W.heap.size (some ⟨f, 0, none⟩) [.int .u32 (s : Int), .slice A3 n1 d3] ∧ W.ownsRow H 55 2 (.slice A3 n1 d3) n1 (arcCells L)
  | _ => True
set_option maxRecDepth 100000 in
set_option maxHeartbeats 1200000 in
theorem graphNew_law (A : Option Addr) (n c : Nat) (l : List RwD) (v : Nat) (w : World) (hl : l.length = n) (hr : RowsAt w 0 w.heap.size A l) : Calls Try.prog 4 #[.slice A n c, .int .u32 (v : Int)] w fun e w' => e = .returned (.bool true) ∧ Below w.heap.size w w' := by
  have HAW := Lib.hid awake15_any
  have HFE := Lib.hid (few15_any (c := c) hl hr)
  have HL := Lib.hid hl
  have HR := Lib.hid hr
  obtain ⟨H, hH⟩ : ∃ H, H = w.heap.size := ⟨_, rfl⟩
  have HHE := Lib.hid hH
  obtain ⟨i0, hi0, hz0, hz1, hz2⟩ := info_parts row_info
  obtain ⟨j0, hj0, hy0, hy1, hy2⟩ := info_parts arc_info
  clear hl hr hH
  go_enter Try.func4, Try.ntmps4
  go_wp2_with fail
  refine HFE.out.mono ?_
  rintro e w1 ⟨⟨b, rfl, hfew⟩, hb1⟩
  have HB1 := Lib.hid hb1
  cases b with
  | false =>
    clear hfew hb1 HFE
    go_wp2_with fail
    refine (HAW.out w1).mono ?_
    rintro e w2 ⟨rfl, hb2⟩
    have FIN := Lib.hid (HB1.out.trans (hb2.mono HB1.out.size))
    clear hb2
    go_wp2
    go_ret
    exact ⟨rfl, FIN.out⟩
  | true =>
    have hn50 := (hfew rfl).1
    have HF := Lib.hid (hfew rfl).2
    have HO0 := Lib.hid (show RwsW (w1.alloc (.cells #[] 51)) H (some ⟨w1.heap.size, 0, none⟩) 0 0 [] [] from
      ⟨own_more (show (w1.alloc (.cells #[] 51)).ownsRow w1.heap.size 51 2 (.slice (some ⟨w1.heap.size, 0, none⟩) 0 0) 0 [] from ⟨rfl, .inr ⟨w1.heap.size, 0, #[], rfl, Nat.le_refl _, heap_alloc_new w1 _, Nat.le_refl _, by decide, rfl, rfl⟩⟩) (by have := hb1.size; have := HHE.out; omega), rfl, rfl, fun i p r h => (by simp at h), fun p hp => (by cases hp), fun p hp => (by cases hp)⟩)
    have HB0 := Lib.hid (show Below w.heap.size w (w1.alloc (.cells #[] 51)) from hb1.alloc hb1.size _)
    clear hfew hb1 HFE
    go_wp2
    go_loopw [5, 6] (fun ov kv wr => ∃ (k : Nat) (A1 : Option Addr) (c1 : Nat), ov = .slice A1 k c1 ∧ kv = .int .i64 (k : Int) ∧ k ≤ n ∧ Hid (∃ vs, RwsW wr H A1 k c1 (l.take k) vs) ∧ Hid (Below w.heap.size w wr)) (fun _ kv _ => n - (intOf kv).toNat)
    case atStart => exact ⟨0, _, 0, rfl, rfl, Nat.zero_le _, Lib.hid ⟨[], HO0.out⟩, HB0⟩
    case round =>
      obtain ⟨k, A1, c1, rfl, rfl, hk, HO, HB⟩ := hrel
      by_cases hlt : k < n
      · obtain ⟨a, ⟨s0, P, n1, c2⟩, r, rfl, hr, hab, x0, x1, hat⟩ := HR.out.at (k := k) (by rw [HL.out]; exact hlt)
        dsimp only at x0 x1 hat
        obtain ⟨s, hs⟩ : ∃ s, s = r.1 := ⟨_, rfl⟩
        rw [← hs] at x0
        have HX := Lib.hid (show ∀ W, Below w.heap.size w W → W.cell? (a.add (k * 2)) = some (.int .u32 (s : Int)) ∧ W.cell? ⟨(a.add (k * 2)).block, (a.add (k * 2)).off + 1, none⟩ = some (.slice P n1 c2) from fun W hW =>
          ⟨(hW.cell (by rw [block_add]; exact hab)).trans x0, (hW.cell (p := ⟨(a.add (k * 2)).block, (a.add (k * 2)).off + 1, none⟩) (by show (a.add (k * 2)).block < _; rw [block_add]; exact hab)).trans x1⟩)
        have HTK := Lib.hid (show l.take (k + 1) = l.take k ++ [r] from (take_more hr).2)
        have HAT := Lib.hid hat
        have hln : r.2.length = n1 := hat.len
        have HLN := Lib.hid hln
        have hn1 : n1 ≤ 50 := by rw [← hln]; exact HF.out r (List.mem_of_getElem? hr)
        have HSS := Lib.hid hs
        have hlt2 : (k : Int) < (n : Int) := by omega
        have hkk : k < n := hlt
        have HSZ := Lib.hid (show H ≤ wr.heap.size by have := HB.out.size; have := HHE.out; omega)
        obtain ⟨vs, hvs⟩ := HO.out
        have HVS := Lib.hid hvs
        clear hr hat x0 x1 hab hs hln hvs HO
        go_wp2_with fail
        refine wp_region_tlT (tail := [_, _]) 15 (gnG H k n c s n1 c2 c1 a A1 P r.2) [28, 29, 30, 31, 32, 33, 34, 35, 36, 37, 38, 39, 40, 41, 42] [([5], none), ([0], none), ([6], none), ([29, 30], none), ([31], none), ([32], none), ([], none), ([0], none), ([6], none), ([35, 36], none), ([37], none), ([38], none), ([34, 39], none), ([33, 40], none), ([41], none)] 154 (by kernel_rfl) (by kernel_rfl) rfl ?h0 ?hreq rfl ?hend
        case h0 =>
          intro t W hnd _
          unfold gnG
          split <;> first | rfl | trivial | exact absurd (by simp) hnd
        case hreq =>
          refine ⟨?_, ?_, ?_, ?_, ?_, ?_, ?_, ?_, ?_, ?_, ?_, ?_, ?_, ?_, ?_, trivial⟩
          all_goals
            intro ac W hg hk
            have hg' : Below wr.heap.size wr W := hg
            have hW := HB.out.trans (hg'.mono HB.out.size)
            obtain ⟨z0, z1⟩ := HX.out W hW
            have HSW : H ≤ W.heap.size := Nat.le_trans HSZ.out hg'.size
            simp only [Gw.Knows, gnG] at hk
            try (simp [go_sem, Gw.OpReq, Gw.Ok, Gw.Post, Gw.Holds, gnG, Gw.Grows.refl, hk, z0, z1, hkk]; done)
          · simp [go_sem, Gw.OpReq, Gw.Ok, Gw.Post, Gw.Holds, gnG, hk]
            exact ⟨(Below.refl _ _).alloc (Nat.le_refl _) _, fun W2 hW2 => own_below' (World.ownsRow_lit (base := H) (size := 2) W #[] 0 HSW (by unfold maxLen; omega) rfl) hW2⟩
          · obtain ⟨⟨g, e34, ho34⟩, e39, -⟩ := hk
            obtain ⟨v', w', hr, ho, hb⟩ := run_copy_row (P := Try.prog) W H 36 36 55 j0 _ 2 8 Try.underlying36 hj0 hy0 hy1 hy2 rfl (by decide) ⟨g, 0, none⟩ (by rw [e34] at ho34; exact ho34) HSW P n1 c2 (arcCells r.2) (by rw [arcCells_length, HLN.out]) (fun hn0 => by
              obtain ⟨b, e1, e2, e3⟩ := (HAT.out.arcs.below hW).1 (hn0)
              exact ⟨b, e1, e3⟩) (by unfold maxLen; omega) (by omega)
            obtain ⟨A8, d8, rfl, -⟩ := own_slice' ho
            show Gw.Ok _ _ _ _ _
            refine okg_append rfl ((Gw.eval_slot ac 34).trans e34) ((Gw.eval_slot ac 39).trans e39) hr hb ?_
            intro W2 hW2
            exact ⟨A8, d8, rfl, own_below' ho hW2⟩
          · obtain ⟨e33, ⟨A3, d3, e40, ho40⟩, -⟩ := hk
            simp [go_sem, Gw.OpReq, Gw.Ok, Gw.Post, Gw.Holds, gnG, e33, e40]
            exact ⟨Gw.Grows.refl _, fun W2 hW2 => ⟨A3, d3, ⟨rfl, rfl⟩, own_below' ho40 hW2⟩⟩
          · obtain ⟨⟨A3, d3, e41, ho41⟩, -⟩ := hk
            simp [go_sem, Gw.OpReq, Gw.Ok, Gw.Post, Gw.Holds, gnG, e41]
            refine ⟨(Below.refl _ _).alloc (Nat.le_refl _) _, fun W2 hW2 => ⟨A3, d3, (cs_new W #[.int .u32 (s : Int), .slice A3 n1 d3] 51).grow hW2, ?_⟩⟩
            exact own_below' (own_below' ho41 ((Below.refl _ _).alloc (Nat.le_refl _) _)) hW2
        case hend =>
          intro y w8 hg hy
          have h28 := (hy 28 (by simp)).now
          obtain ⟨f, A3, d3, h42, hc42, ho42⟩ := (hy 42 (by simp)).now
          have hg' : Below wr.heap.size wr w8 := hg
          simp only [gnG] at h28
          simp only [Gw.putAll, Act.put, List.setIfInBounds_toArray, List.set_cons_zero, List.set_cons_succ]
          rw [h28, h42]
          obtain ⟨f', ef, hfl, hfc⟩ := hc42 (by simp)
          injection ef with ef
          subst ef
          have hv8 := HVS.out.past hg'
          refine tl_append (.tmp 28) (.tmp 42) 29 rfl H 51 i0 _ 2 32 Try.underlying29 hi0 hz0 hz1 hz2 rfl (by decide) A1 k c1 _ rfl hv8.own ⟨f, 0, none⟩ 1 1 [.int .u32 (s : Int), .slice A3 n1 d3] rfl rfl hfc (fun u hu => by simp at hu; rcases hu with rfl | rfl <;> rfl) (by decide) (by unfold maxLen; omega) (by omega) (by have := hg'.size; have := HSZ.out; omega) ?_
          intro v9 w9 ho9 hg9 hn9
          obtain ⟨A9, c9, hv9, -⟩ := own_slice' ho9
          subst hv9
          have HB9 := Lib.hid (show Below w.heap.size w w9 from (HB.out.trans (hg'.mono HB.out.size)).grown hg9 (Nat.le_trans HB.out.size hg'.size) (fun j e => by have := (hv8.own.lt j e).1; have := HHE.out; omega))
          have HO9 := Lib.hid (show ∃ vs, RwsW w9 H A9 (k + 1) c9 (l.take (k + 1)) vs from by
            rw [HTK.out]
            refine ⟨_, hv8.push (p := (s, A3, n1, d3)) (r := r) ⟨fun a e => ?_, HSS.out, HAT.out.fit, HLN.out, own_bounds ho42, Arcs.of_own ho42 HAT.out.arcs.2⟩ ho42 ho9 hg9 hn9⟩
            exact (ho42.lt a.block (by rw [show A3 = some a from e]; rfl)).1)
          clear ho9 hg9 hn9 h28 h42 hc42 ho42 hfl hfc hv8 hg' hg hy
          refine ⟨?_⟩
          refine Gw.wp_assign (.tmp 43) _ rfl rfl ?_
          simp only [Gw.seqTail, Act.put, List.setIfInBounds_toArray, List.set_cons_zero, List.set_cons_succ]
          go_wp2
          go_roundw
          case rel => exact ⟨k + 1, A9, c9, rfl, by go_num, by omega, HO9, HB9⟩
          case measure => simp [intOf]; omega
      · have e : n = k := by omega
        subst e
        obtain ⟨vs, hvs⟩ := HO.out
        rw [List.take_of_length_le (by rw [HL.out]; exact Nat.le_refl _)] at hvs
        have HVS := Lib.hid hvs
        clear hvs HO
        obtain ⟨S1, hS1⟩ : ∃ S1, S1 = wr.heap.size := ⟨_, rfl⟩
        have hE := edges_le HF.out
        rw [HL.out] at hE
        have hE2 : (edgesG l).length ≤ 2500 := Nat.le_trans hE (by omega)
        have HNW := Lib.hid (gnew_any (c := c1) HL.out (by omega) (fun r hr => by have := HF.out r hr; omega) (by omega) HVS.out.at)
        have HE2 := Lib.hid hE2
        have HOP := Lib.hid (OpR.of HVS.out)
        have HS1 := Lib.hid hS1
        rw [← hS1] at HOP
        obtain ⟨ss, hss⟩ : ∃ ss, ss = vs.map (·.2) := ⟨_, rfl⟩
        rw [← hss] at HOP
        clear hss hS1 hE hE2 HVS
        go_wp2_with fail
        refine HNW.out.mono ?_
        rintro e w2 ⟨g, A6, n6, c6, rfl, hnil, hg6, hb2⟩
        rw [newQ_snd] at hnil ⊢
        obtain ⟨z, hz⟩ : ∃ z, z = newG none l := ⟨_, rfl⟩
        rw [← hz] at hnil ⊢
        have HB2 := Lib.hid (HB.out.trans (hb2.mono HB.out.size))
        have HRN := Lib.hid (show ∀ W, Below w.heap.size w W → Calls Try.prog 27 #[.slice A n c] W fun e w' => e = .returned (.int .i64 z) ∧ Below W.heap.size W w' from fun W hW => by
          rw [hz]
          exact rnew_any HL.out (by omega) (fun r hr => by have := HF.out r hr; omega) (HR.out.past hW))
        by_cases hz0 : z = 0
        rotate_left
        · have d0 : (z != 0) = true := by simp [hz0]
          have hgn := hnil hz0
          subst hgn
          clear hnil hg6 hz hz0 hb2 HNW HOP
          go_wp2_with fail
          refine (HRN.out w2 HB2.out).mono ?_
          rintro e w3 ⟨rfl, hb3⟩
          have HB3 := Lib.hid (HB2.out.trans (hb3.mono HB2.out.size))
          clear hb3
          go_wp2_with fail
          refine (HRN.out w3 HB3.out).mono ?_
          rintro e w4 ⟨rfl, hb4⟩
          have HB4 := Lib.hid (HB3.out.trans (hb4.mono HB3.out.size))
          clear hb4
          go_wp2_with fail
          refine (HAW.out w4).mono ?_
          rintro e w5 ⟨rfl, hb5⟩
          have FIN := Lib.hid (HB4.out.trans (hb5.mono HB4.out.size))
          clear hb5
          go_wp2
          go_ret
          exact ⟨rfl, FIN.out⟩
        · subst hz0
          obtain ⟨S2, hS2⟩ : ∃ S2, S2 = w2.heap.size := ⟨_, rfl⟩
          rw [newQ_fst hz.symm, ← HS1.out, ← hS2] at hg6
          have HAS2 := Lib.hid (show Aside w S1 S2 g A6 n6 c6 l w2 from ⟨HB2.out, hg6⟩)
          have HOP2 := Lib.hid (HOP.out.past hb2)
          have HSS := Lib.hid (show H ≤ S1 ∧ S1 ≤ S2 from by
            have := HB.out.size
            have := HHE.out
            have := HS1.out
            have := hb2.size
            omega)
          have HS2 := Lib.hid hS2
          clear hnil hg6 hz hb2 HNW HOP hS2
          go_wp2_with fail
          refine (HRN.out w2 HB2.out).mono ?_
          rintro e w3 ⟨rfl, hb3⟩
          have HAS3 := Lib.hid (HAS2.out.past hb3)
          have HOP3 := Lib.hid (HOP2.out.past hb3)
          clear hb3 HAS2 HOP2
          go_wp2
          go_loopw [9] (fun kv wx => ∃ k : Nat, kv = .int .i64 (k : Int) ∧ k ≤ n ∧ Hid (OpR wx H S1 A1 n c1 ss) ∧ Hid (Aside w S1 S2 g A6 n6 c6 l wx)) (fun kv _ => n - (intOf kv).toNat)
          case atStart => exact ⟨0, rfl, Nat.zero_le _, HOP3, HAS3⟩
          case round =>
            clear HOP3 HAS3
            obtain ⟨k, rfl, hk, HOP, HAS⟩ := hrel
            by_cases hlt : k < n
            · obtain ⟨a1, ⟨P, n1, c2⟩, z5, rfl, hs, ha1, ha2, y0, f0, y1⟩ := HOP.out.at hlt
              dsimp only at y1
              have HSK := Lib.hid hs
              have HA := Lib.hid (And.intro ha1 ha2)
              have HOP2 := Lib.hid (HOP.out.set0 hlt rfl (IntKind.u32.wrap (z5 + 5)))
              have HAS2 := Lib.hid (HAS.out.set (q := a1.add (k * 2)) (by rw [block_add]; have := HHE.out; omega) (.inl (by rw [block_add]; exact ha2)) (.int .u32 (IntKind.u32.wrap (z5 + 5))))
              have hlt2 : (k : Int) < (n : Int) := by omega
              clear hs ha1 ha2 HOP HAS
              go_wp2
              go_loopw [10] (fun jv wx => ∃ j : Nat, jv = .int .i64 (j : Int) ∧ j ≤ n1 ∧ Hid (OpR wx H S1 (some a1) n c1 ss) ∧ Hid (Aside w S1 S2 g A6 n6 c6 l wx)) (fun jv _ => n1 - (intOf jv).toNat)
              case atStart => exact ⟨0, rfl, Nat.zero_le _, HOP2, HAS2⟩
              case round =>
                clear HOP2 HAS2 y0 f0 y1
                obtain ⟨j, rfl, hj, HOP, HAS⟩ := hrel
                obtain ⟨a1', s', z6, e1, hs', -, -, y0, f0, y1⟩ := HOP.out.at hlt
                injection e1 with e1
                subst e1
                rw [HSK.out] at hs'
                injection hs' with hs'
                subst hs'
                dsimp only at y1
                obtain ⟨hmax, hW, hap, hex⟩ := HOP.out.wr _ (List.mem_of_getElem? HSK.out)
                dsimp only at hmax hap hex
                by_cases hjn : j < n1
                · obtain ⟨a2, rfl⟩ := hex (by omega)
                  obtain ⟨b1, b2, b3⟩ := hap (by omega) a2 rfl
                  obtain ⟨u0, v0, q0, g0, q1, g1⟩ := hW.two rfl hjn
                  obtain ⟨v1, q2⟩ := cell?_setCell_some (w := wr) (p := a2.add (j * 2)) (x := .int .u32 0) q1
                  have g2 : (wr.setCell (a2.add (j * 2)) (.int .u32 0)).frozen? ⟨(a2.add (j * 2)).block, (a2.add (j * 2)).off + 1, none⟩ = false := by rw [World.frozen?_setCell]; exact g1
                  have eb : (a2.add (j * 2)).block = a2.block := block_add _ _
                  have hb0 : H = w.heap.size := HHE.out
                  have HOP5 := Lib.hid ((HOP.out.setO (q := a2.add (j * 2)) (by rw [eb]; exact b3) (.int .u32 0)).setO (q := ⟨(a2.add (j * 2)).block, (a2.add (j * 2)).off + 1, none⟩) (by show _ ≠ some (a2.add (j * 2)).block; rw [eb]; exact b3) (.int .u32 0))
                  have HAS5 := Lib.hid ((HAS.out.set (q := a2.add (j * 2)) (by omega) (.inl (by omega)) (.int .u32 0)).set (q := ⟨(a2.add (j * 2)).block, (a2.add (j * 2)).off + 1, none⟩) (by show _ ≤ (a2.add (j * 2)).block; omega) (.inl (by show (a2.add (j * 2)).block < _; omega)) (.int .u32 0))
                  have hjn2 : (j : Int) < (n1 : Int) := by omega
                  clear hap hex hW HOP HAS eb hb0 b1 b2 b3
                  go_wp2
                  go_roundw
                  case rel => exact ⟨j + 1, by go_num, by omega, HOP5, HAS5⟩
                  case measure => simp [intOf]; omega
                · clear hap hex hW
                  have hjn2 : ¬ (j : Int) < (n1 : Int) := by omega
                  go_wp2
                  go_roundw
                  case rel => exact ⟨k + 1, by go_num, by omega, HOP, HAS⟩
                  case measure => simp [intOf]; omega
            · have e : n = k := by omega
              subst e
              clear HOP
              have HARC := Lib.hid (gArcs_any HAS.out.gr v)
              go_wp2_with fail
              refine HARC.out.mono ?_
              rintro e w5 ⟨A7, n7, c7, rfl, -, ho7, hb7⟩
              have HAS5 := Lib.hid (HAS.out.past hb7)
              obtain ⟨B, hB⟩ : ∃ B, B = wr.heap.size := ⟨_, rfl⟩
              rw [← hB] at ho7
              have HBS := Lib.hid (show S2 ≤ B by rw [hB]; exact HAS.out.gr.top)
              have hn7 := own_bounds ho7
              have HOA := Lib.hid (show OpA w5 B A7 n7 c7 from ⟨_, ho7⟩)
              clear ho7 hb7 hB HAS HARC
              go_wp2
              go_loopw [12] (fun kv wx => ∃ k : Nat, kv = .int .i64 (k : Int) ∧ k ≤ n7 ∧ Hid (OpA wx B A7 n7 c7) ∧ Hid (Aside w S1 S2 g A6 n6 c6 l wx)) (fun kv _ => n7 - (intOf kv).toNat)
              case atStart => exact ⟨0, rfl, Nat.zero_le _, HOA, HAS5⟩
              case round =>
                clear HOA HAS5
                obtain ⟨k, rfl, hk, HOA, HAS⟩ := hrel
                by_cases hlt : k < n7
                · obtain ⟨a2, u0, v0, rfl, hab, q0, g0, q1, g1, hnx⟩ := HOA.out.at hlt
                  obtain ⟨v1, q2⟩ := cell?_setCell_some (w := wr) (p := a2.add (k * 2)) (x := .int .u32 0) q1
                  have g2 : (wr.setCell (a2.add (k * 2)) (.int .u32 0)).frozen? ⟨(a2.add (k * 2)).block, (a2.add (k * 2)).off + 1, none⟩ = false := by rw [World.frozen?_setCell]; exact g1
                  have eb : (a2.add (k * 2)).block = a2.block := block_add _ _
                  have hb0 : H = w.heap.size := HHE.out
                  obtain ⟨hb2, hb3⟩ := HSS.out
                  have hb4 := HBS.out
                  have HOA5 := Lib.hid (hnx (.int .u32 0) (.int .u32 0))
                  have HAS5 := Lib.hid ((HAS.out.set (q := a2.add (k * 2)) (by omega) (.inr (by omega)) (.int .u32 0)).set (q := ⟨(a2.add (k * 2)).block, (a2.add (k * 2)).off + 1, none⟩) (by show _ ≤ (a2.add (k * 2)).block; omega) (.inr (by show _ ≤ (a2.add (k * 2)).block; omega)) (.int .u32 0))
                  have hlt2 : (k : Int) < (n7 : Int) := by omega
                  clear hnx HOA HAS eb hb0 hb2 hb3 hb4 hab
                  go_wp2
                  go_roundw
                  case rel => exact ⟨k + 1, by go_num, by omega, HOA5, HAS5⟩
                  case measure => simp [intOf]; omega
                · have e : n7 = k := by omega
                  subst e
                  clear HOA
                  have HRW := Lib.hid (lawrows_any HAS.out.gr)
                  go_wp2_with fail
                  refine HRW.out.mono ?_
                  rintro e w7 ⟨A8, n8, c8, vs8, rfl, hr8, hb8⟩
                  have HAS7 := Lib.hid (HAS.out.past hb8)
                  obtain ⟨B8, hB8⟩ : ∃ B, B = wr.heap.size := ⟨_, rfl⟩
                  rw [← hB8] at hr8
                  have HBS8 := Lib.hid (show S2 ≤ B8 by rw [hB8]; exact HAS.out.gr.top)
                  have hn8 := hr8.num
                  have e8 : n8 = n := by rw [← hn8]; exact HL.out
                  subst e8
                  have HSM := Lib.hid (msame_any A8 A n8 c8 c l w7 HL.out (by omega) (fun r hr => by have := HF.out r hr; omega) hr8.at (HR.out.past HAS7.out.old))
                  have HOP8 := Lib.hid (OpR.of hr8)
                  obtain ⟨E8, hE8⟩ : ∃ E, E = w7.heap.size := ⟨_, rfl⟩
                  rw [← hE8] at HOP8
                  obtain ⟨s8, hs8⟩ : ∃ ss, ss = vs8.map (·.2) := ⟨_, rfl⟩
                  rw [← hs8] at HOP8
                  clear hs8 hE8 hn8 hr8 hb8 hB8 HAS HRW
                  go_wp2_with fail
                  refine HSM.out.mono ?_
                  rintro e w8 ⟨rfl, hb9⟩
                  have HAS8 := Lib.hid (HAS7.out.past hb9)
                  have HOP9 := Lib.hid (HOP8.out.past hb9)
                  clear hb9 HAS7 HOP8 HSM
                  go_wp2
                  go_loopw [15] (fun kv wx => ∃ k : Nat, kv = .int .i64 (k : Int) ∧ k ≤ n8 ∧ Hid (OpR wx B8 E8 A8 n8 c8 s8) ∧ Hid (Aside w S1 S2 g A6 n6 c6 l wx)) (fun kv _ => n8 - (intOf kv).toNat)
                  case atStart => exact ⟨0, rfl, Nat.zero_le _, HOP9, HAS8⟩
                  case round =>
                    clear HOP9 HAS8
                    obtain ⟨k, rfl, hk, HOP, HAS⟩ := hrel
                    by_cases hlt : k < n8
                    · obtain ⟨a1, ⟨P, n1, c2⟩, z5, rfl, hs, ha1, ha2, y0, f0, y1⟩ := HOP.out.at hlt
                      dsimp only at y1
                      have HSK := Lib.hid hs
                      have hlt2 : (k : Int) < (n8 : Int) := by omega
                      clear hs ha1 ha2 y0 f0
                      go_wp2
                      go_loopw [16] (fun jv wx => ∃ j : Nat, jv = .int .i64 (j : Int) ∧ j ≤ n1 ∧ Hid (OpR wx B8 E8 (some a1) n8 c8 s8) ∧ Hid (Aside w S1 S2 g A6 n6 c6 l wx)) (fun jv _ => n1 - (intOf jv).toNat)
                      case atStart => exact ⟨0, rfl, Nat.zero_le _, HOP, HAS⟩
                      case round =>
                        clear HOP HAS y1
                        obtain ⟨j, rfl, hj, HOP, HAS⟩ := hrel
                        obtain ⟨a1', s', z6, e1, hs', -, -, y0, f0, y1⟩ := HOP.out.at hlt
                        injection e1 with e1
                        subst e1
                        rw [HSK.out] at hs'
                        injection hs' with hs'
                        subst hs'
                        dsimp only at y1
                        obtain ⟨hmax, hW, hap, hex⟩ := HOP.out.wr _ (List.mem_of_getElem? HSK.out)
                        dsimp only at hmax hap hex
                        by_cases hjn : j < n1
                        · obtain ⟨a2, rfl⟩ := hex (by omega)
                          obtain ⟨b1, b2, b3⟩ := hap (by omega) a2 rfl
                          obtain ⟨u0, v0, -, -, q1, g1⟩ := hW.two rfl hjn
                          have eb : (a2.add (j * 2)).block = a2.block := block_add _ _
                          have hb0 : H = w.heap.size := HHE.out
                          obtain ⟨hb2, hb3⟩ := HSS.out
                          have hb4 := HBS8.out
                          have HOP5 := Lib.hid (HOP.out.setO (q := ⟨(a2.add (j * 2)).block, (a2.add (j * 2)).off + 1, none⟩) (by show _ ≠ some (a2.add (j * 2)).block; rw [eb]; exact b3) (.int .u32 0))
                          have HAS5 := Lib.hid (HAS.out.set (q := ⟨(a2.add (j * 2)).block, (a2.add (j * 2)).off + 1, none⟩) (by show _ ≤ (a2.add (j * 2)).block; omega) (.inr (by show _ ≤ (a2.add (j * 2)).block; omega)) (.int .u32 0))
                          have hjn2 : (j : Int) < (n1 : Int) := by omega
                          clear hap hex hW HOP HAS eb hb0 hb2 hb3 hb4 b1 b2 b3
                          go_wp2
                          go_roundw
                          case rel => exact ⟨j + 1, by go_num, by omega, HOP5, HAS5⟩
                          case measure => simp [intOf]; omega
                        · clear hap hex hW
                          have hjn2 : ¬ (j : Int) < (n1 : Int) := by omega
                          go_wp2
                          go_roundw
                          case rel => exact ⟨k + 1, by go_num, by omega, HOP, HAS⟩
                          case measure => simp [intOf]; omega
                    · have e : n8 = k := by omega
                      subst e
                      clear HOP
                      have HED := Lib.hid (gedges_any HAS.out.gr)
                      have HFI := Lib.hid (rows_fit HAS.out.gr.rows)
                      have hlt2 : ¬ (n8 : Int) < (n8 : Int) := by omega
                      go_wp2_with fail
                      refine HED.out.mono ?_
                      rintro e w9 ⟨A9, n9, c9, rfl, hl9, ho9, hb9⟩
                      have HAS9 := Lib.hid (HAS.out.past hb9)
                      have HE9 := Lib.hid (show Eds w9 w9.heap.size A9 (edgesG l) from ⟨Cs.of_own ho9, HFI.out⟩)
                      have HRE := Lib.hid (redges_any (c := c) HL.out (by omega) (by have := HE2.out; omega) (HR.out.past HAS9.out.old))
                      subst hl9
                      clear ho9 hb9 HAS HED
                      go_wp2_with fail
                      refine HRE.out.mono ?_
                      rintro e w10 ⟨A10, n10, c10, rfl, hl10, ho10, hb10⟩
                      have HAS10 := Lib.hid (HAS9.out.past hb10)
                      subst hl10
                      have HES := Lib.hid (esame_any A9 A10 (edgesG l).length c9 c10 (edgesG l) w10 rfl (by have := HE2.out; omega) (Eds.more (Eds.below HE9.out hb10) hb10.size) ⟨Cs.of_own ho10, HFI.out⟩)
                      clear ho10 hb10 HAS9 HRE HE9
                      go_wp2_with fail
                      refine HES.out.mono ?_
                      rintro e w11 ⟨rfl, hb11⟩
                      have HAS11 := Lib.hid (HAS10.out.past hb11)
                      clear hb11 HAS10 HES
                      go_wp2_with fail
                      refine (HAW.out w11).mono ?_
                      rintro e w12 ⟨rfl, hb12⟩
                      have FIN := Lib.hid (HAS11.out.past hb12).old
                      clear hb12 HAS11
                      go_wp2
                      go_ret
                      exact ⟨rfl, FIN.out⟩
end Go.Proofs.Yteaibgnelnblnaa
end
