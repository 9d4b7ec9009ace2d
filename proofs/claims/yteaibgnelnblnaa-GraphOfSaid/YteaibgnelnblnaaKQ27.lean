/- Texts put together, for a law: NuC, GqL, GqW, GqY, GqZ, GqQ. -/
import Derived.Shelf.SlicesE.Compact
import Derived.Lib.RowBridge
import Derived.Test.YteaibgnelnblnaaKQ26
import Derived.Test.YteaibgnelnblnaaKQ22
import Derived.Test.YteaibgnelnblnaaKQ23
import Derived.Test.YteaibgnelnblnaaKQ13
import Derived.Test.YteaibgnelnblnaaKQ3
section
namespace Go.Proofs.Yteaibgnelnblnaa
open Go.RowKit Me Tx Ed Mg Va Go.Sort

theorem arr_nat (L : List Nat) (j : Nat) : L.toArray[j]! = nat_ L j := by
  unfold nat_
  rw [List.getD_eq_getElem?_getD]
  by_cases h : j < L.length
  · rw [getElem!_pos L.toArray j (by simpa using h), List.getElem?_eq_getElem h]; simp
  · rw [getElem!_neg L.toArray j (by simpa using h), List.getElem?_eq_none (by omega)]; rfl
theorem comp_rise {L : List Nat} {n : Nat} (h : So 0 n L) : ∀ m, m ≤ n → (Lib.compactUpTo L.toArray m).Pairwise (· < ·) ∧ (∀ x, x ∈ Lib.compactUpTo L.toArray m ↔ ∃ j, j < m ∧ x = nat_ L j)
  | 0, _ => ⟨by simp [Lib.compactUpTo], fun x => by simp [Lib.compactUpTo]⟩
  | m + 1, hm => by
    obtain ⟨h1, h2⟩ := comp_rise h m (by omega)
    rw [Lib.compactUpTo_succ]
    by_cases hk : Lib.keeps L.toArray m = true
    · rw [if_pos hk, arr_nat]
      refine ⟨List.pairwise_append.2 ⟨h1, List.pairwise_singleton _ _, fun x hx y hy => ?_⟩, fun x => ?_⟩
      · rw [List.mem_singleton.1 hy]
        obtain ⟨j, hj, rfl⟩ := (h2 x).1 hx
        unfold Lib.keeps at hk
        rw [arr_nat, arr_nat] at hk
        rcases of_decide_eq_true hk with e | e
        · omega
        · have h3 : nat_ L (m - 1) ≤ nat_ L m := by
            rcases Nat.eq_zero_or_pos m with h0 | h0
            · omega
            · exact h (m - 1) m (by omega) (by omega) (by omega)
          have h4 : nat_ L j ≤ nat_ L (m - 1) := by
            by_cases e2 : j = m - 1
            · rw [e2]; exact Nat.le_refl _
            · exact h j (m - 1) (by omega) (by omega) (by omega)
          have h5 : nat_ L m ≠ nat_ L (m - 1) := e
          omega
      · rw [List.mem_append, List.mem_singleton, h2]
        constructor
        · rintro (⟨j, hj, e⟩ | e)
          · exact ⟨j, by omega, e⟩
          · exact ⟨m, by omega, e⟩
        · rintro ⟨j, hj, e⟩
          by_cases e2 : j = m
          · subst e2; exact .inr e
          · exact .inl ⟨j, by omega, e⟩
    · rw [if_neg hk, List.append_nil]
      refine ⟨h1, fun x => (h2 x).trans ⟨fun ⟨j, hj, e⟩ => ⟨j, by omega, e⟩, fun ⟨j, hj, e⟩ => ?_⟩⟩
      by_cases e2 : j = m
      · subst e2
        have h0 : ¬ (j = 0 ∨ nat_ L j ≠ nat_ L (j - 1)) := by
          intro hh
          apply hk
          unfold Lib.keeps
          rw [arr_nat, arr_nat]
          exact decide_eq_true hh
        refine ⟨j - 1, by omega, ?_⟩
        rw [e]
        have := fun hh => h0 (.inr hh)
        exact Classical.byContradiction this
      · exact ⟨j, by omega, e⟩
theorem comp_len {L : List Nat} : ∀ m, (Lib.compactUpTo L.toArray m).length ≤ m
  | 0 => by simp [Lib.compactUpTo]
  | m + 1 => by
    have := comp_len (L := L) m
    rw [Lib.compactUpTo_succ, List.length_append]
    split <;> simp <;> omega
/-- Numbers, somewhere. -/
def SomeN (w : World) (l : List Nat) (e : Ending) (w' : World) : Prop :=
  ∃ A n c, e = .returned (.slice A n c) ∧ l.length = n ∧ Cs w' w'.heap.size A (nCells l) ∧ Below w.heap.size w w'
set_option maxRecDepth 100000 in
theorem compact_nil (A : Option Addr) (c : Nat) (w : World) : Calls Try.prog 42 #[.slice A 0 c] w fun e w' => e = .returned (.slice A 0 c) ∧ w' = w := by
  go_enter Try.func42, Try.ntmps42
  go_wp2
  go_ret
  exact ⟨rfl, rfl⟩
theorem ncompact_any (base : Nat) (a0 : Addr) (n c : Nat) (L : List Nat) (w : World) (h : NumAt w base a0 n c L) (hso : So 0 n L) (hn : n ≤ 1000000000) :
    Calls Try.prog 42 #[.slice (some a0) n c] w fun e w' => ∃ M : List Nat, e = .returned (.slice (some a0) M.length c) ∧ M.Pairwise (· < ·) ∧ (∀ x, x ∈ M ↔ x ∈ L) ∧ Cs w' w'.heap.size (some a0) (nCells M) ∧ NOut a0 w w' := by
  have hl := h.len
  have hb := own_bounds h.own
  by_cases h0 : n = 0
  · subst h0
    have hnil : L = [] := List.length_eq_zero_iff.1 hl
    subst hnil
    refine (compact_nil (some a0) c w).mono ?_
    rintro e w1 ⟨rfl, rfl⟩
    exact ⟨[], rfl, List.Pairwise.nil, fun x => Iff.rfl, Cs.empty, Out.refl _ _⟩
  · obtain ⟨g, hg, hgb, -, -, -⟩ := own_put (v := undef) h.own (i := 0) (by omega)
    injection hg with hg
    subst hg
    have hgl := (h.own.lt g rfl).2
    let enc : Nat → Value := fun x => .int .u32 (x : Int)
    have hds : L.toArray.size = n := by simp [hl]
    have hH : Holds enc w g 0 L.toArray := fun j hj => by
      obtain ⟨h1, h2⟩ := h.get (i := j) (by omega)
      have e1 : (⟨g, 0, none⟩ : Addr).add j = ⟨g, j, none⟩ := by simp [Addr.add]; omega
      rw [e1] at h1 h2
      rw [Nat.zero_add, arr_nat]
      exact ⟨h1, h2⟩
    have heq : EqlAt Try.prog 23 enc (fun x y => decide (x = y)) := ⟨fun x y w => by
      have h1 := (EqlAt.intD Try.prog 23 .u32).1 (x : Int) (y : Int) w
      dsimp only at h1
      rw [show decide ((x : Int) = (y : Int)) = decide (x = y) by rw [decide_eq_decide]; omega] at h1
      exact h1, fun op a b x y w => (EqlAt.intD Try.prog 23 .u32).2 op a b (x : Int) (y : Int) w⟩
    have hne : NeqAt Try.prog 23 enc (fun x y => decide (x = y)) := ⟨fun x y w => by
      have h1 := (NeqAt.intD Try.prog 23 .u32).1 (x : Int) (y : Int) w
      dsimp only at h1
      rw [show decide ((x : Int) = (y : Int)) = decide (x = y) by rw [decide_eq_decide]; omega] at h1
      exact h1, fun op a b x y w => (NeqAt.intD Try.prog 23 .u32).2 op a b (x : Int) (y : Int) w⟩
    have hcon := AnyE.slices_Compact { Try.shCompact with } enc (fun _ => rfl) heq hne 0 (fun w => Try.zeroValue23 w) g 0 c L.toArray w hH (by omega) (by omega)
    change Calls Try.prog 42 _ _ _ at hcon
    rw [hds] at hcon
    refine hcon.mono ?_
    rintro e w1 ⟨rfl, q, rfl⟩
    obtain ⟨M, hM⟩ : ∃ M, M = Lib.compactUpTo L.toArray n := ⟨_, rfl⟩
    have hml : M.length ≤ n := by rw [hM]; exact comp_len n
    rw [← hM]
    obtain ⟨h1, h2⟩ := comp_rise hso n (Nat.le_refl _)
    rw [← hM] at h1 h2
    have hlen : (M ++ List.replicate (n - M.length) 0).length = L.toArray.size := by rw [List.length_append, List.length_replicate, hds]; omega
    rw [Lib.putRow_eq_setCells enc w g 0 L.toArray _ q hH hlen]
    have hq : NumAt (w.drewN q) base ⟨g, 0, none⟩ n c L := h.past (below_drewN _ _)
    have hml2 : (M.map enc ++ (List.replicate (n - M.length) 0).map enc).length = n := by
      rw [← List.map_append, List.length_map, hlen, hds]
    have hown := own_sets ((M ++ List.replicate (n - M.length) 0).map enc) 0 hq.own (by rw [List.map_append, hml2]; omega)
    rw [setsL_all (by rw [List.map_append, hml2, nCells_length, hl])] at hown
    refine ⟨M, rfl, h1, fun x => (h2 x).trans ⟨fun ⟨j, hj, e⟩ => ?_, fun hx => ?_⟩, fun h0 => ?_, Out.setCells g _ 0 (out_drewN (fun k => k = g) w q) (.inl rfl)⟩
    · rw [e]
      exact List.mem_of_getElem? (nat_get (by rw [hl]; exact hj))
    · obtain ⟨j, hj, e⟩ := List.getElem_of_mem hx
      refine ⟨j, by omega, ?_⟩
      have := nat_get hj
      rw [List.getElem?_eq_getElem hj, e] at this
      injection this
    · obtain ⟨a, e, hb2, hc⟩ := Cs.of_own hown (by rw [List.map_append, hml2]; omega)
      refine ⟨a, e, hb2, fun i v hv => hc i v ?_⟩
      rw [List.map_append, List.getElem?_append_left (by have := (List.getElem?_eq_some_iff.1 hv).1; rw [nCells_length] at this; rw [List.length_map]; exact this)]
      exact hv
end Go.Proofs.Yteaibgnelnblnaa
end
section
namespace Go.Proofs.Yteaibgnelnblnaa
open Go.RowKit Me Tx Ed Mg Va

/-- The ends that have come so far. -/
structure ViI (H : Nat) (w : World) (O : Nat → Prop) (pre : List Nat) (W : World) : Prop where
  ex : ∃ A n c, Blk W H [.slice A n c] ∧ W.ownsRow (H + 2) 23 1 (.slice A n c) n (nCells pre) ∧ ∀ k, (Value.slice A n c).ownBlock = some k → ¬ O k
  low : ∀ k, O k → H + 2 ≤ k
  size : H + 2 ≤ W.heap.size
  out : Below w.heap.size w W
theorem ViI.stays {H : Nat} {w : World} (hH : w.heap.size = H) : Ru.Stays (ViI H w) := by
  intro O O' pre W W' h ho hk
  obtain ⟨A, n, c, h1, h2, h3⟩ := h.ex
  refine ⟨⟨A, n, c, h1.out ho (fun e => by have := h.low _ e; omega), own_out h2 ho h3, fun k e hO => (hk k hO).elim (h3 k e) (fun h => by have := (h2.lt k e).2; omega)⟩, fun k e => (hk k e).elim (h.low k) (fun e => by have := h.size; omega), Nat.le_trans h.size ho.size, ?_⟩
  exact h.out.trans (ho.below (fun k _ e => by have := h.low k e; omega) h.out.size)
attribute [local go_sem] Oper.semAt_some
set_option maxRecDepth 100000 in
set_option maxHeartbeats 4000000 in
theorem gverts_any {w : World} {lo hi n0 c0 : Nat} {g A0 : Option Addr} {l : List RwD} (h : GrAt w lo hi g A0 n0 c0 l) (hs : Sorts (endsE (edgesG l)).length) :
    Calls Try.prog 23 #[.pointer g] w (SomeN w (vertsE [] (edgesG l))) := by
  refine (callsIn_wide (n := 4)).1 ?_
  obtain ⟨H, hH⟩ : ∃ H, H = w.heap.size := ⟨_, rfl⟩
  obtain ⟨W1, hW1⟩ : ∃ W1, w.alloc (.cells #[.slice none 0 0] 45) = W1 := ⟨_, rfl⟩
  obtain ⟨W2, hW2⟩ : ∃ W2, W1.alloc (.cells #[.pointer g] 25) = W2 := ⟨_, rfl⟩
  have hs1 : W1.heap.size = H + 1 := by rw [← hW1, hH]; simp
  have hs2 : W2.heap.size = H + 2 := by rw [← hW2]; simp [hs1]
  have hb1 : Below w.heap.size w W1 := by rw [← hW1]; exact (Below.refl _ _).alloc (Nat.le_refl _) _
  have hb2 : Below w.heap.size w W2 := by rw [← hW2]; exact hb1.alloc hb1.size _
  have b0 : Blk W2 H [.slice none 0 0] := by rw [← hW2, ← hW1, hH]; exact (Blk.new w [_] _).alloc _
  have b1 : Blk W2 (H + 1) [.pointer g] := by rw [← hW2]; exact Blk.new' W1 [.pointer g] _ hs1
  obtain ⟨E, hE⟩ : ∃ E, E = edgesG l := ⟨_, rfl⟩
  have HG := Lib.hid (ends_gives (h.past hb2) b1)
  have hfw : (endsE E).length ≤ 2000000 := by rw [endsE_length, hE]; have := h.few.2; omega
  have HTP := Lib.hid h.top
  have HI0 := Lib.hid (show ∀ O : Nat → Prop, (∀ k, O k → H + 2 ≤ k) → ViI H w O [] W2 from fun O hO => ⟨⟨none, 0, 0, b0, World.ownsRow_nil _ _ _ _, fun k e => (by cases e)⟩, hO, by omega, hb2⟩)
  rw [← hE] at HG hs
  rw [← hE]
  have HFW := Lib.hid hfw
  have HSO := Lib.hid hs
  have HHE := Lib.hid hH
  have HW1 := Lib.hid hW1
  have HW2 := Lib.hid hW2
  have HS1 := Lib.hid hs1
  clear hH hW1 hW2 hs1 hb1 hb2 b0 b1 h hE hs hfw
  refine callsIn_of_wp_marks Try.func23 rfl trivial ?_ rfl
  simp only [Try.ntmps23, List.size_toArray, List.length_cons, List.length_nil, Nat.reduceAdd, Nat.reduceSub, Array.replicate_succ, Array.replicate_zero, List.push_toArray, List.append_toArray, List.nil_append, List.cons_append]
  gi_wp2_with fail
  simp only [← HHE.out]
  rw [HW1.out]
  refine ⟨trivial, (callsIn_wide.2 (gends_any g W1)).mono ?_⟩
  rintro e w' ⟨rfl, hw'⟩
  rw [hw', HW2.out, HS1.out]
  clear hw'
  gi_wp2_with fail
  refine Ru.range_gives (gf := 63) (lb := #[.pointer (some ⟨H + 1, 0, none⟩)]) rfl (Go.Proofs.enters_of Try.func63 (by kernel_rfl) rfl) HG.out (Below.refl _ _) (fun B O x av W h => by rw [show av = #[.int .u32 (x : Int)] from h]; rfl)
    (fun k => k = H) ?hS ?hM
    (ViI H w) (fun _ _ _ _ => False) (ViI.stays HHE.out.symm) (fun _ _ _ _ _ _ h => h.elim) ?hI0
    (fun O x a' W' => a' = { tmps := #[.pointer g, undef, .slice none 0 0, .pointer (some ⟨H, 0, none⟩), .int .u32 (x : Int), .pointer g, .func (.func 63) #[] #[.pointer (some ⟨H + 1, 0, none⟩)], .int .u32 (x : Int), undef, undef, undef, undef, undef, undef, undef, undef], defers := [] })
    ?hAx ?assign ?body ?done ?stop
  case hS =>
    intro k hk
    have h1 := HTP.out
    have h2 := HHE.out
    refine ⟨by omega, ?_⟩
    rintro (h | h) <;> omega
  case hM =>
    have h1 := HTP.out
    have h2 := HHE.out
    rintro k (h | h) <;> omega
  case hI0 =>
    intro O hO
    exact HI0.out O (fun k hk => by have := hO k hk; omega)
  case hAx =>
    rintro O x a' Wa Wb e ho
    exact e
  case assign =>
    rintro O l' m pre x av W' K hO hOD hOD1 hv hI ho hK
    rw [show av = #[.int .u32 (x : Int)] from hv]
    gi_wp2
    exact hK _ _ (Out.refl _ _) hI rfl
  case body =>
    rintro O l' m pre x post a' W4 hX hO hOD hOD1 ho hI rfl
    obtain ⟨A7, n7, c7, hbx, hown, hfree⟩ := hI.ex
    have t2 := hbx.cell (i := 0) rfl
    have f2 := hbx.frozen 0
    have hn7 : n7 + 1 ≤ 2000000 := by
      have h1 := HFW.out
      rw [hX, List.length_append, List.length_cons] at h1
      have h2 := hown.1
      rw [nCells_length] at h2
      omega
    obtain ⟨i0, hi0, hz0', hz1, hz2⟩ := info_parts num_info
    have HMX := Lib.hid (show n7 + 1 ≤ maxLen ∧ (n7 + 1) * 4 ≤ 140737488355328 by unfold maxLen; omega)
    have HOW := Lib.hid (own_below' hown ((Below.refl _ _).alloc (Nat.le_refl _) (.cells #[.int .u32 (x : Int)] 23)))
    have HBX := Lib.hid hbx
    have HFR := Lib.hid hfree
    have HI2 := Lib.hid hI
    have hsz4 := hI.size
    have hH2 : H < W4.heap.size := hbx.lt
    have hne : (Value.slice A7 n7 c7).ownBlock ≠ some H := fun e => by have := (hown.lt H e).1; omega
    have HNE := Lib.hid hne
    have HO := Lib.hid hO
    have HC1 := Lib.hid (cells_new W4 (nCells [x]) 23 (by simp [nCells]))
    have HON := Lib.hid (And.intro hOD hOD1)
    clear hbx hown hfree hI hO hX ho hOD hOD1 hne
    gi_wp2_with (gi_at_builtin
                 go_loud (refine wpListIn_append_both rfl (.tmp 8) (.tmp 10) 45 rfl (H + 2) 23 i0 _ 1 4 Try.underlying45 hi0 hz0' hz1 hz2 rfl (by decide) A7 n7 c7 _ rfl HOW.out ⟨W4.heap.size, 0, none⟩ 1 1 (nCells [x]) rfl rfl HC1.out nCells_one (by decide) HMX.out.1 HMX.out.2 (by rw [World.size_alloc]; omega) ?_)
                 intro v6 w6 ho6 hg6 hn6 hfit6
                 refine Classical.byContradiction fun hcontra => ?_)
    obtain ⟨A8, d8, hv8, -⟩ := own_slice' ho6
    subst hv8
    rw [← nCells_append] at ho6
    have hba : Below W4.heap.size W4 (W4.alloc (.cells #[.int .u32 (x : Int)] 23)) := (Below.refl _ _).alloc (Nat.le_refl _) _
    have hb6 := (HBX.out.past hba).grown hg6 HNE.out
    have FIN := Lib.hid (show Out (Ru.SO (fun k => k = H) W2.heap.size O) W4 (w6.setCell ⟨H, 0, none⟩ (.slice A8 (n7 + 1) d8)) ∧ ViI H w O (pre ++ [x]) (w6.setCell ⟨H, 0, none⟩ (.slice A8 (n7 + 1) d8)) from by
      have hfin : Out (fun k => k = H ∨ (Value.slice A7 n7 c7).ownBlock = some k) W4 (w6.setCell ⟨H, 0, none⟩ (.slice A8 (n7 + 1) d8)) :=
        ((Out.of_below hba).trans (Out.of_grown (S := fun k => k = H ∨ (Value.slice A7 n7 c7).ownBlock = some k) hg6 fun k e _ => .inr e)).setCell (p := ⟨H, 0, none⟩) (.inl (.inl rfl)) _
      have hne8 : (Value.slice A8 (n7 + 1) d8).ownBlock ≠ some H := fun e => by have := (ho6.lt H e).1; omega
      refine ⟨hfin.more fun k _ hk => ?_, ⟨⟨A8, n7 + 1, d8, hb6.set 0 _, ownsRow_setCell_other ho6 (a := ⟨H, 0, none⟩) hne8 _, fun k e hO => ?_⟩, HI2.out.low, Nat.le_trans hsz4 hfin.size, ?_⟩⟩
      · rcases hk with rfl | hk
        · exact .inl rfl
        · exact .inr ⟨by rw [hs2]; exact (HOW.out.lt k hk).1, HFR.out k hk⟩
      · rcases hn6 with h | h
        · rw [h] at e; exact HFR.out k e hO
        · rw [h] at e; injection e with e; have := (HO.out k hO).2; rw [World.size_alloc] at e; omega
      · exact HI2.out.out.trans (hfin.below (fun k _ hk => by
          have := HHE.out
          rcases hk with rfl | hk
          · omega
          · have := (HOW.out.lt k hk).1; omega) HI2.out.out.size))
    have e8 := hb6.cell (i := 0) rfl
    have y8 := hb6.frozen 0
    clear ho6 hg6 hn6 hfit6 hba hb6 t2 f2
    apply hcontra
    clear hcontra
    gi_wp2
    exact FIN.out
  case done =>
    rintro O D W4 hO hD hOD ho hI hK
    obtain ⟨A7, n7, c7, hbx, hown, hfree⟩ := hI.ex
    have hD3 : D = H + 2 := by rw [hD, hs2]
    subst hD3
    have q1 := hbx.cell (i := 0) rfl
    have HBX := Lib.hid hbx
    have HOW := Lib.hid hown
    have HKK := Lib.hid hK
    have HI2 := Lib.hid hI
    have HFR := Lib.hid (fun e => hfree (H + 2) e hOD)
    have hH2 : H < W4.heap.size := hbx.lt
    clear hO hD hOD ho hI hK hbx hown hfree
    cases A7 with
    | none =>
      have h0 : n7 = 0 := by
        rcases Nat.eq_zero_or_pos n7 with h | h
        · exact h
        · obtain ⟨g1, cap, hf, -, -⟩ := HOW.out.form h
          injection hf with f1
          cases f1
      subst h0
      have hE0 : endsE E = [] := by
        have := HOW.out.1
        rw [nCells_length] at this
        exact List.length_eq_zero_iff.1 (by omega)
      have hall : Out (fun k => k = H + 2) W4 (W4.putObj (H + 2) (.deferred none)) := Ru.put_out (O := fun k => k = H + 2) _ (H + 2) _ rfl
      have FIN := Lib.hid (show SomeN w (vertsE [] E) (.returned (.slice none 0 c7)) (W4.putObj (H + 2) (.deferred none)) from by
        rw [← verts_one (l := E) (m := []) List.Pairwise.nil (fun x => by rw [hE0])]
        exact ⟨none, 0, c7, rfl, rfl, Cs.empty, HI2.out.out.trans (hall.below (fun k _ hk => by have := HHE.out; omega) HI2.out.out.size)⟩)
      clear hE0 hall
      gi_wp2_with fail
      refine ⟨trivial, (callsIn_wide.2 (sort_nil none c7 W4)).mono ?_⟩
      rintro e w5 ⟨rfl, hw5⟩
      rw [hw5]
      clear hw5
      gi_wp2_with fail
      refine ⟨trivial, (callsIn_wide.2 (compact_nil none c7 W4)).mono ?_⟩
      rintro e w5 ⟨rfl, hw5⟩
      rw [hw5]
      clear hw5
      gi_wp2_with fail
      refine ⟨by simp, .inl ⟨_, _, rfl, run_takeDeferred HKK.out, ?_⟩⟩
      exact ⟨.slice none 0 c7, by simp [results, Try.results23, go_sem], FIN.out⟩
    | some a0 =>
      have hnum : NumAt W4 (H + 2) a0 n7 c7 (endsE E) := ⟨HOW.out⟩
      have hnl := hnum.len
      have HSS := Lib.hid (HSO.out (H + 2) a0 c7 (endsE E) W4)
      rw [hnl] at HSS
      have HSS2 := Lib.hid (HSS.out hnum)
      have HA0 := Lib.hid (show H + 2 ≤ a0.block ∧ a0.block ≠ H + 2 from ⟨(HOW.out.lt a0.block rfl).1, fun e => HFR.out (by show some a0.block = _; rw [e])⟩)
      have hn7 : n7 ≤ 1000000000 := by have := HFW.out; omega
      clear HSO HSS hnum hnl
      gi_wp2_with fail
      refine ⟨trivial, (callsIn_wide.2 HSS2.out).mono ?_⟩
      rintro e w5 ⟨rfl, L', hpm, hso, hnum5, ho5⟩
      have q5 := (HBX.out.out ho5 (by have := HA0.out; omega)).cell (i := 0) rfl
      have hH5 : H < w5.heap.size := Nat.lt_of_lt_of_le hH2 ho5.size
      have HCO := Lib.hid (ncompact_any (H + 2) a0 n7 c7 L' w5 hnum5 hso hn7)
      have HPM := Lib.hid hpm.perm
      have HO5 := Lib.hid ho5
      clear hpm hso hnum5 ho5 q1
      gi_wp2_with fail
      refine ⟨trivial, (callsIn_wide.2 HCO.out).mono ?_⟩
      rintro e w6 ⟨M, rfl, hM1, hM2, hcs, ho6⟩
      have hh6 : w6.heap[H + 2]? = some (.deferred (some [])) := Rt.heap_out ho6 (Rt.heap_out HO5.out HKK.out (fun e => HA0.out.2 e.symm)) (fun e => HA0.out.2 e.symm)
      have hall : Out (fun k => k = H + 2) w6 (w6.putObj (H + 2) (.deferred none)) := Ru.put_out (O := fun k => k = H + 2) _ (H + 2) _ rfl
      have FIN := Lib.hid (show SomeN w (vertsE [] E) (.returned (.slice (some a0) M.length c7)) (w6.putObj (H + 2) (.deferred none)) from by
        rw [← verts_one (l := E) (m := M) hM1 (fun x => (hM2 x).trans HPM.out.mem_iff)]
        have ho46 : Out (fun k => k = a0.block) W4 w6 := HO5.out.trans ho6
        refine ⟨some a0, M.length, c7, rfl, rfl, fun h0 => ?_, ?_⟩
        · obtain ⟨a, e, hb, hc⟩ := hcs h0
          injection e with e
          subst e
          exact ⟨a0, rfl, Nat.lt_of_lt_of_le hb hall.size, fun i v hv => (hall.cell (by rw [block_add]; exact hb) (by rw [block_add]; exact HA0.out.2)).trans (hc i v hv)⟩
        · have hb4 := HI2.out.out
          have hb6 := hb4.trans (ho46.below (B := w.heap.size) (fun k _ hk => by have := HHE.out; have := HA0.out.1; omega) hb4.size)
          exact hb6.trans (hall.below (fun k _ hk => by have := HHE.out; omega) hb6.size))
      have HH6 := Lib.hid hh6
      clear hM1 hM2 hcs ho6 hh6 hall q5
      gi_wp2_with fail
      refine ⟨by simp, .inl ⟨_, _, rfl, run_takeDeferred HH6.out, ?_⟩⟩
      exact ⟨.slice (some a0) M.length c7, by simp [results, Try.results23, go_sem], FIN.out⟩
  case stop =>
    rintro O D cc pre post W4 hO hD hOD ho hX h hK
    exact h.elim
end Go.Proofs.Yteaibgnelnblnaa
end
section
namespace Go.Proofs.Yteaibgnelnblnaa
open Go.RowKit Me Tx Ed Mg Va

theorem example_of : ofG [⟨1, 2, 3⟩, ⟨1, 2, 4⟩] = ([⟨1, [⟨2, 7⟩]⟩], 0) := by decide
theorem example_fit : ∀ x ∈ ([⟨1, 2, 3⟩, ⟨1, 2, 4⟩] : List EdD), FitE x := fun x hx => by
  simp at hx
  rcases hx with rfl | rfl <;> exact ⟨by decide, by decide, by decide⟩
set_option maxRecDepth 100000 in
set_option maxHeartbeats 2000000 in
theorem awake15_any (w : World) : Calls Try.prog 8 #[] w fun e w' => e = .returned (.bool true) ∧ Below w.heap.size w w' := by
  obtain ⟨w1, hw1⟩ : ∃ w1, w1 = w.alloc (.cells #[.int .u32 1, .int .u32 2, .int .u32 3, .int .u32 1, .int .u32 2, .int .u32 4] 58) := ⟨_, rfl⟩
  obtain ⟨H, hH⟩ : ∃ H, H = w.heap.size := ⟨_, rfl⟩
  have hb1 : Below w.heap.size w w1 := by rw [hw1]; exact (Below.refl _ _).alloc (Nat.le_refl _) _
  have hcs : Cs w1 w1.heap.size (some ⟨H, 0, none⟩) (edCells [⟨1, 2, 3⟩, ⟨1, 2, 4⟩]) := by
    rw [hw1, hH]
    have := Cs.lit w #[.int .u32 1, .int .u32 2, .int .u32 3, .int .u32 1, .int .u32 2, .int .u32 4] 58
    rwa [← World.size_alloc w (.cells #[.int .u32 1, .int .u32 2, .int .u32 3, .int .u32 1, .int .u32 2, .int .u32 4] 58)] at this
  have HOF := Lib.hid (gof_any (some ⟨H, 0, none⟩) 2 2 [⟨1, 2, 3⟩, ⟨1, 2, 4⟩] w1 rfl (by omega) hcs example_fit)
  rw [example_of] at HOF
  have HHE := Lib.hid hH
  have HW1 := Lib.hid hw1
  have HB1 := Lib.hid hb1
  clear hw1 hb1 hcs hH
  go_enter Try.func8, Try.ntmps8
  go_wp2_with fail
  rw [← HW1.out, ← HHE.out]
  refine HOF.out.mono ?_
  rintro e w2 ⟨g, A, n, c, rfl, -, hg, hb2⟩
  replace hg : GrAt w2 w1.heap.size w2.heap.size g A n c (rowM [⟨1, [⟨2, 7⟩]⟩]) := hg
  have HG := Lib.hid hg
  have HB2 := Lib.hid (HB1.out.trans (hb2.mono HB1.out.size))
  have HV := Lib.hid (gverts_any hg (sort_few (by decide)))
  have hn : n = 1 := hg.len.symm
  subst hn
  clear hg hb2
  go_wp2_with fail
  refine HV.out.mono ?_
  rintro e w3 ⟨A3, n3, c3, rfl, hl3, hc3, hb3⟩
  have HG3 := Lib.hid (HG.out.past hb3)
  have HB3 := Lib.hid (HB2.out.trans (hb3.mono HB2.out.size))
  have hve : vertsE [] (edgesG (rowM ([⟨1, [⟨2, 7⟩]⟩] : List RowR))) = [1, 2] := by decide
  have hl3' : n3 = 2 := by rw [← hl3]; show (vertsE [] (edgesG (rowM ([⟨1, [⟨2, 7⟩]⟩] : List RowR)))).length = 2; rw [hve]; rfl
  have hc3' : Cs w3 w3.heap.size A3 (nCells [1, 2]) := by rw [← hve]; exact hc3
  subst hl3'
  obtain ⟨a, x, rfl, hx, hab, y0⟩ := cs_at hc3' (k := 0) (by decide)
  obtain ⟨a', x', ea, hx', -, y1⟩ := cs_at hc3' (k := 1) (by decide)
  injection ea with ea
  subst ea
  injection hx with hx
  subst hx
  injection hx' with hx'
  subst hx'
  rw [adr_zero] at y0
  have HY := Lib.hid (show ∀ W, Below w3.heap.size w3 W → W.cell? a = some (.int .u32 1) ∧ W.cell? (a.add 1) = some (.int .u32 2) from fun W hW => ⟨(hW.cell hab).trans y0, (hW.cell (by rw [block_add]; exact hab)).trans y1⟩)
  have hN1 := gnear_any HG3.out 1 2
  rw [show nearG (arcsG (rowM ([⟨1, [⟨2, 7⟩]⟩] : List RowR)) 1) 2 = true by decide] at hN1
  have HN1 := Lib.hid hN1
  clear hl3 hc3 hc3' hb3 y0 y1 hve hab hN1
  go_wp2_with fail
  refine (glen_any HG3.out).mono ?_
  rintro e w4 ⟨rfl, hw4⟩
  rw [hw4]
  clear hw4
  go_wp2_with fail
  refine HN1.out.mono ?_
  rintro e w4 ⟨rfl, hb4⟩
  have HB4 := Lib.hid hb4
  have hN2 := gnear_any (HG3.out.past hb4) 2 1
  rw [show nearG (arcsG (rowM ([⟨1, [⟨2, 7⟩]⟩] : List RowR)) 2) 1 = false by decide] at hN2
  have HN2 := Lib.hid hN2
  clear hb4 hN2
  go_wp2_with fail
  refine HN2.out.mono ?_
  rintro e w5 ⟨rfl, hb5⟩
  have HB5 := Lib.hid (HB4.out.trans (hb5.mono HB4.out.size))
  obtain ⟨y0, y1⟩ := HY.out w5 HB5.out
  rw [show a.add 1 = ⟨a.block, a.off + 1, none⟩ from adr_at a 0] at y1
  have FIN := Lib.hid (HB3.out.trans (HB5.out.mono HB3.out.size))
  clear hb5
  go_wp2
  go_ret
  exact ⟨rfl, FIN.out⟩
end Go.Proofs.Yteaibgnelnblnaa
end
section
namespace Go.Proofs.Yteaibgnelnblnaa
open Go.RowKit Me Tx Ed Mg Va

theorem gok_few {l : List RwD} (h : GOk l) : ∀ r ∈ l, r.2.length ≤ 4294967296 := fun r hr => Nat.le_trans (may_few (h.full r hr).2) (by omega)
end Go.Proofs.Yteaibgnelnblnaa
end
section
namespace Go.Proofs.Yteaibgnelnblnaa
open Go.RowKit Me Tx Ed Mg Va

end Go.Proofs.Yteaibgnelnblnaa
end
section
namespace Go.Proofs.Yteaibgnelnblnaa
open Go.RowKit Me Tx Ed Mg Va

set_option maxRecDepth 100000 in
set_option maxHeartbeats 3000000 in
theorem graphOf_law (A : Option Addr) (n c : Nat) (l : List EdD) (u v : Nat) (w : World) (hl : l.length = n) (hc : Cs w w.heap.size A (edCells l)) (hf : ∀ x ∈ l, FitE x) (hs : ∀ m, m ≤ 1000 → Sorts m) : Calls Try.prog 3 #[.slice A n c, .int .u32 (u : Int), .int .u32 (v : Int)] w fun e w' => e = .returned (.bool true) ∧ Below w.heap.size w w' := by
  have HAW := Lib.hid awake15_any
  have HSR := Lib.hid hs
  clear hs
  by_cases g1 : (100 : Int) < (n : Int)
  · clear hl hc hf
    go_enter Try.func3, Try.ntmps3
    go_wp2_with fail
    refine (HAW.out w).mono ?_
    rintro e w1 ⟨rfl, hb1⟩
    have FIN := Lib.hid hb1
    clear hb1
    go_wp2
    go_ret
    exact ⟨rfl, FIN.out⟩
  have hn : n ≤ 100 := by omega
  have HL := Lib.hid hl
  have HC := Lib.hid hc
  have HFI := Lib.hid hf
  have HOF := Lib.hid (gof_any A n c l w hl (by omega) hc hf)
  clear hl hc hf
  go_enter Try.func3, Try.ntmps3
  go_wp2_with fail
  refine HOF.out.mono ?_
  rintro e w2 ⟨g, A2, n2, c2, rfl, hnil, hg, hb2⟩
  dsimp only at hnil hg
  have HB2 := Lib.hid hb2
  have HRO := Lib.hid (rofG_any A n c l w2 HL.out (by omega) ((HC.out.below hb2).more hb2.size) HFI.out)
  obtain ⟨z, hz⟩ : ∃ z, z = (ofG l).2 := ⟨_, rfl⟩
  obtain ⟨Q, hQ⟩ : ∃ Q, Q = (ofG l).1 := ⟨_, rfl⟩
  have hQz : ofG l = (Q, z) := by rw [hQ, hz]
  have HOK := Lib.hid (show z = 0 → OfOk l Q from fun h => by rw [hQ]; exact ofG_good (hz.symm.trans h))
  rw [hQz] at HRO
  rw [← hz] at hnil
  rw [← hQ] at hg
  rw [← hz]
  have HG := Lib.hid hg
  have HNI := Lib.hid hnil
  clear hnil hg hz hQ hQz hb2 HOF HFI HC
  go_wp2_with fail
  refine HRO.out.mono ?_
  rintro e w3 ⟨A3, n3, c3, rfl, hl3, -, -, hr3, hb3⟩
  dsimp only at hl3 hr3
  have HB3 := Lib.hid (HB2.out.trans (hb3.mono HB2.out.size))
  have HG3 := Lib.hid (HG.out.past hb3)
  have HR3 := Lib.hid hr3
  have HL3 := Lib.hid hl3
  clear hr3 hl3 hb3 HRO HG HB2
  by_cases hz0 : z = 0
  rotate_left
  · have d0 : (z != 0) = true := by simp [hz0]
    have hgn := HNI.out hz0
    subst hgn
    clear hz0 HNI HG3 HR3 HL3
    go_wp2_with fail
    refine (HAW.out w3).mono ?_
    rintro e w4 ⟨rfl, hb4⟩
    have FIN := Lib.hid (HB3.out.trans (hb4.mono HB3.out.size))
    clear hb4
    go_wp2
    go_ret
    exact ⟨rfl, FIN.out⟩
  · subst hz0
    have hok := HOK.out rfl
    obtain ⟨R, hR⟩ : ∃ R, R = rowM Q := ⟨_, rfl⟩
    have HGO := Lib.hid (show GOk R by rw [hR]; exact hok.graph)
    have HSH := Lib.hid (show (edgesG R).length ≤ 100 by rw [hR]; have := hok.short; rw [HL.out] at this; omega)
    rw [← hR] at HG3 HR3 HL3
    have hn2 := HG3.out.len
    have hnb : R.length ≤ 100 := by have h1 := edges_few HGO.out; have h2 := HSH.out; omega
    have hn3 := HL3.out
    subst hn3
    subst hn2
    have HNB := Lib.hid hnb
    have HFT := Lib.hid (rows_fit HG3.out.rows)
    clear hok hR HOK HNI hnb
    go_wp2_with fail
    refine (glen_any HG3.out).mono ?_
    rintro e w4 ⟨rfl, hw4⟩
    rw [hw4]
    clear hw4
    go_wp2_with fail
    refine (lawrows_any HG3.out).mono ?_
    rintro e w5 ⟨A5, n5, c5, vs5, rfl, hr5, hb5⟩
    have hn5 := hr5.num
    subst hn5
    have HB5 := Lib.hid (HB3.out.trans (hb5.mono HB3.out.size))
    have HG5 := Lib.hid (HG3.out.past hb5)
    have HR5 := Lib.hid (HR3.out.past hb5)
    have HSM := Lib.hid (msame_any A5 A3 R.length c5 c3 R w5 rfl (by have := HNB.out; omega) (gok_few HGO.out) hr5.at HR5.out)
    clear hr5 hb5 HG3 HR3
    go_wp2_with fail
    refine HSM.out.mono ?_
    rintro e w6 ⟨rfl, hb6⟩
    have HB6 := Lib.hid (HB5.out.trans (hb6.mono HB5.out.size))
    have HG6 := Lib.hid (HG5.out.past hb6)
    have HR6 := Lib.hid (HR5.out.past hb6)
    clear hb6 HG5 HR5 HSM
    go_wp2_with fail
    refine (gArcs_any HG6.out u).mono ?_
    rintro e w7 ⟨A7, n7, c7, rfl, hl7, ho7, hb7⟩
    have HB7 := Lib.hid (HB6.out.trans (hb7.mono HB6.out.size))
    have HG7 := Lib.hid (HG6.out.past hb7)
    have HR7 := Lib.hid (HR6.out.past hb7)
    have HA7 := Lib.hid ho7
    subst hl7
    have HRA := Lib.hid (rarcs_any (c := c3) (l := R) rfl (by have := HNB.out; omega) HR7.out u)
    clear ho7 hb7 HG6 HR6
    go_wp2_with fail
    refine HRA.out.mono ?_
    rintro e w8 ⟨A8, n8, c8, rfl, hl8, -, -, ha8, hb8⟩
    have HB8 := Lib.hid (HB7.out.trans (hb8.mono HB7.out.size))
    have HG8 := Lib.hid (HG7.out.past hb8)
    have HR8 := Lib.hid (HR7.out.past hb8)
    subst hl8
    have HAS := Lib.hid (asame_any A7 A8 (arcsG R u).length c7 c8 (arcsG R u) w8 w8.heap.size w8.heap.size rfl (by have := (arcsG_may HGO.out u).1; omega) (Arcs.of_own (own_below' HA7.out hb8) ha8.2) ha8 (Nat.le_refl _) (Nat.le_refl _))
    clear ha8 hb8 HG7 HR7 HA7 HRA
    go_wp2_with fail
    refine HAS.out.mono ?_
    rintro e w9 ⟨rfl, hb9⟩
    have HB9 := Lib.hid (HB8.out.trans (hb9.mono HB8.out.size))
    have HG9 := Lib.hid (HG8.out.past hb9)
    have HR9 := Lib.hid (HR8.out.past hb9)
    clear hb9 HG8 HR8 HAS
    go_wp2_with fail
    refine (gnear_any HG9.out u v).mono ?_
    rintro e w10 ⟨rfl, hb10⟩
    have HB10 := Lib.hid (HB9.out.trans (hb10.mono HB9.out.size))
    have HG10 := Lib.hid (HG9.out.past hb10)
    have HR10 := Lib.hid (HR9.out.past hb10)
    have HRN := Lib.hid (rnear_any (c := c3) (l := R) rfl (by have := HNB.out; omega) HR10.out HGO.out u v)
    clear hb10 HG9 HR9
    go_wp2_with fail
    refine HRN.out.mono ?_
    rintro e w11 ⟨rfl, hb11⟩
    have HB11 := Lib.hid (HB10.out.trans (hb11.mono HB10.out.size))
    have HG11 := Lib.hid (HG10.out.past hb11)
    have HR11 := Lib.hid (HR10.out.past hb11)
    clear hb11 HG10 HR10 HRN
    have d5 : ∀ b : Bool, (b == b) = true := fun b => by simp
    go_wp2_with fail
    refine (gedges_any HG11.out).mono ?_
    rintro e w12 ⟨A12, n12, c12, rfl, hl12, ho12, hb12⟩
    have HB12 := Lib.hid (HB11.out.trans (hb12.mono HB11.out.size))
    have HG12 := Lib.hid (HG11.out.past hb12)
    have HR12 := Lib.hid (HR11.out.past hb12)
    have HE12 := Lib.hid (show Eds w12 w12.heap.size A12 (edgesG R) from ⟨Cs.of_own ho12, HFT.out⟩)
    subst hl12
    have HRE := Lib.hid (redges_any (c := c3) (l := R) rfl (by have := HNB.out; omega) (by have := HSH.out; omega) HR12.out)
    clear ho12 hb12 HG11 HR11
    go_wp2_with fail
    refine HRE.out.mono ?_
    rintro e w13 ⟨A13, n13, c13, rfl, hl13, ho13, hb13⟩
    have HB13 := Lib.hid (HB12.out.trans (hb13.mono HB12.out.size))
    have HG13 := Lib.hid (HG12.out.past hb13)
    have HR13 := Lib.hid (HR12.out.past hb13)
    subst hl13
    have HES := Lib.hid (esame_any A12 A13 (edgesG R).length c12 c13 (edgesG R) w13 rfl (by have := HSH.out; omega) (Eds.more (Eds.below HE12.out hb13) hb13.size) ⟨Cs.of_own ho13, HFT.out⟩)
    clear ho13 hb13 HG12 HR12 HRE HE12
    go_wp2_with fail
    refine HES.out.mono ?_
    rintro e w14 ⟨rfl, hb14⟩
    have HB14 := Lib.hid (HB13.out.trans (hb14.mono HB13.out.size))
    have HG14 := Lib.hid (HG13.out.past hb14)
    have HR14 := Lib.hid (HR13.out.past hb14)
    have HGV := Lib.hid (gverts_any HG14.out (HSR.out _ (by rw [endsE_length]; have := HSH.out; omega)))
    clear hb14 HG13 HR13 HES
    go_wp2_with fail
    refine HGV.out.mono ?_
    rintro e w15 ⟨A15, n15, c15, rfl, hl15, hc15, hb15⟩
    have HB15 := Lib.hid (HB14.out.trans (hb15.mono HB14.out.size))
    have HR15 := Lib.hid (HR14.out.past hb15)
    have HC15 := Lib.hid hc15
    subst hl15
    have HRV := Lib.hid (rverts_any (c := c3) (l := R) rfl (by have := HNB.out; omega) (by have := HSH.out; omega) HR15.out)
    clear hc15 hb15 HG14 HR14 HGV
    go_wp2_with fail
    refine HRV.out.mono ?_
    rintro e w16 ⟨A16, n16, c16, rfl, hl16, ho16, hb16⟩
    have HB16 := Lib.hid (HB15.out.trans (hb16.mono HB15.out.size))
    subst hl16
    have HNS := Lib.hid (rsame_num A15 A16 (vertsE [] (edgesG R)).length c15 c16 (vertsE [] (edgesG R)) w16 rfl (by have h1 := vertsE_len (edgesG R) []; have := HSH.out; simp at h1; omega) ((HC15.out.below hb16).more hb16.size) (Cs.of_own ho16))
    clear ho16 hb16 HR15 HC15 HRV
    go_wp2_with fail
    refine HNS.out.mono ?_
    rintro e w17 ⟨rfl, hb17⟩
    have HB17 := Lib.hid (HB16.out.trans (hb17.mono HB16.out.size))
    clear hb17 HNS
    go_wp2_with fail
    refine (HAW.out w17).mono ?_
    rintro e w18 ⟨rfl, hb18⟩
    have FIN := Lib.hid (HB17.out.trans (hb18.mono HB17.out.size))
    clear hb18
    go_wp2
    go_ret
    exact ⟨rfl, FIN.out⟩
end Go.Proofs.Yteaibgnelnblnaa
end
