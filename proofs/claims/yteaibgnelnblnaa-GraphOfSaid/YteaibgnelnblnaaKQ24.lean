/- Texts put together, for a law: NuA. -/
import Derived.Test.YteaibgnelnblnaaKQ23
import Derived.Test.YteaibgnelnblnaaKQ15
section
namespace Go.Proofs.Yteaibgnelnblnaa
open Go.RowKit Me Tx Ed Mg Va

/-- Numbers in a row of one's own. -/
structure NumAt (w : World) (base : Nat) (a0 : Addr) (n c : Nat) (L : List Nat) : Prop where
  own : w.ownsRow base 23 1 (.slice (some a0) n c) n (nCells L)
theorem NumAt.len {w : World} {base n c : Nat} {a0 : Addr} {L : List Nat} (h : NumAt w base a0 n c L) : L.length = n := by
  have := h.own.1
  rw [nCells_length] at this
  omega
theorem NumAt.past {w w' : World} {base n c : Nat} {a0 : Addr} {L : List Nat} (h : NumAt w base a0 n c L) (hb : Below w.heap.size w w') : NumAt w' base a0 n c L := ⟨own_below' h.own hb⟩
theorem NumAt.get {w : World} {base n c : Nat} {a0 : Addr} {L : List Nat} (h : NumAt w base a0 n c L) {i : Nat} (hi : i < n) : w.cell? (a0.add i) = some (.int .u32 (nat_ L i : Int)) ∧ w.frozen? (a0.add i) = false := by
  obtain ⟨g, hg, -, hc, hf, -⟩ := own_put (v := undef) h.own hi
  injection hg with hg
  subst hg
  have e1 : (⟨g, 0, none⟩ : Addr).add i = ⟨g, i, none⟩ := by simp [Addr.add]; omega
  rw [e1]
  refine ⟨hc.trans ?_, hf⟩
  unfold nCells
  rw [List.getElem?_map, nat_get (by rw [h.len]; exact hi)]
  rfl
theorem NumAt.put {w : World} {base n c : Nat} {a0 : Addr} {L : List Nat} (h : NumAt w base a0 n c L) {i : Nat} (hi : i < n) (x : Nat) : NumAt (w.setCell (a0.add i) (.int .u32 (x : Int))) base a0 n c (L.set i x) := by
  obtain ⟨g, hg, -, -, -, hp⟩ := own_put (v := .int .u32 (x : Int)) h.own hi
  injection hg with hg
  subst hg
  have e1 : (⟨g, 0, none⟩ : Addr).add i = ⟨g, i, none⟩ := by simp [Addr.add]; omega
  rw [e1]
  refine ⟨?_⟩
  have e2 : nCells (L.set i x) = (nCells L).set i (.int .u32 (x : Int)) := by unfold nCells; rw [List.map_set]
  rw [e2]
  exact hp
/-- What changes: the row's block alone. -/
abbrev NOut (a0 : Addr) (w w' : World) : Prop := Out (fun k => k = a0.block) w w'
theorem nout_set {a0 : Addr} {w w' : World} (h : NOut a0 w w') (i : Nat) (v : Value) : NOut a0 w (w'.setCell (a0.add i) v) := h.setCell (.inl (block_add a0 i)) v
theorem NumAt.swap {w : World} {base n c : Nat} {a0 : Addr} {L : List Nat} (h : NumAt w base a0 n c L) {i j x y : Nat} (hi : i < n) (hj : j < n) (hx : x = nat_ L i) (hy : y = nat_ L j) :
    NumAt ((w.setCell (a0.add i) (.int .u32 (y : Int))).setCell (a0.add j) (.int .u32 (x : Int))).drew base a0 n c (swp L i j) ∧ NOut a0 w ((w.setCell (a0.add i) (.int .u32 (y : Int))).setCell (a0.add j) (.int .u32 (x : Int))).drew := by
  subst hx hy
  exact ⟨((h.put hi _).put hj _).past (Below.refl _ _).drew, (nout_set (nout_set (Out.refl _ _) i _) j _).trans (out_drew _ _)⟩
set_option maxRecDepth 100000 in
theorem less_any (x y : Nat) (w : World) : Calls Try.prog 89 #[.int .u32 (x : Int), .int .u32 (y : Int)] w fun e w' => e = .returned (.bool (decide (x < y))) ∧ w' = w := by
  have HA := Lib.hid (isnan_any x)
  go_enter Try.func89, Try.ntmps89
  go_wp2_with fail
  refine (HA.out _).mono ?_
  rintro e w1 ⟨rfl, rfl⟩
  go_wp2
  go_ret
  exact ⟨rfl, rfl⟩
/-- What is known of each slot where an element is held against the one ahead of it. -/
def inG (a0 : Addr) (n c a j j1 x y : Nat) (q0 q1 : Bool) : Gw.Fact := fun s v _ =>
  match s with
  | 0 => v = .slice (some a0) n c
  | 1 | 17 => v = .int .i64 (a : Int)
  | 7 | 16 => v = .int .i64 (j : Int)
  | 18 | 19 => v = .bool q0
  | 20 | 24 => q0 = true → v = .slice (some a0) n c
  | 21 | 25 => q0 = true → v = .int .i64 (j : Int)
  | 22 => q0 = true → v = .pointer (some (a0.add j))
  | 23 => q0 = true → v = .int .u32 (x : Int)
  | 26 => q0 = true → v = .int .i64 (j1 : Int)
  | 27 => q0 = true → v = .pointer (some (a0.add j1))
  | 28 => q0 = true → v = .int .u32 (y : Int)
  | 29 => q0 = true → v = .bool q1
  | 30 => v = .bool (q0 && q1)
  | _ => True
/-- A sort's step leaves the row put into another order between a and b, and what is told of it. -/
def NPost (w : World) (base : Nat) (a0 : Addr) (n c a b : Nat) (L : List Nat) (R : List Nat → Prop) (v : Value) (e : Ending) (w' : World) : Prop :=
  e = .returned v ∧ ∃ L', Pm a b L L' ∧ R L' ∧ NumAt w' base a0 n c L' ∧ NOut a0 w w'
set_option maxRecDepth 100000 in
set_option maxHeartbeats 4000000 in
theorem insertion_any (base : Nat) (a0 : Addr) (n c a b : Nat) (L : List Nat) (w : World) (h : NumAt w base a0 n c L) (hab : a ≤ b) (hb : b ≤ n) (hn : n ≤ 1000000000) :
    Calls Try.prog 83 #[.slice (some a0) n c, .int .i64 (a : Int), .int .i64 (b : Int)] w (NPost w base a0 n c a b L (So a b) (.tuple #[])) := by
  have H0 := Lib.hid h
  have HLS := Lib.hid less_any
  clear h
  go_enter Try.func83, Try.ntmps83
  go_wp2
  go_loopw [6] (fun iv wr => ∃ i : Nat, iv = .int .i64 (i : Int) ∧ a + 1 ≤ i ∧ (i ≤ b ∨ i = a + 1) ∧ Hid (∃ L', Pm a b L L' ∧ So a i L' ∧ NumAt wr base a0 n c L') ∧ Hid (NOut a0 w wr)) (fun iv _ => b - (intOf iv).toNat)
  case atStart => exact ⟨a + 1, by go_num, by omega, .inr rfl, Lib.hid ⟨L, Pm.refl _ _ _, So.few (by omega), H0.out⟩, Lib.hid (Out.refl _ _)⟩
  case round =>
    clear H0
    obtain ⟨i, rfl, hai, hib, HC, HOU⟩ := hrel
    by_cases hlt : i < b
    · have hlt2 : (i : Int) < (b : Int) := by omega
      have hi0 : i ≤ b := by omega
      clear hib
      go_wp2
      go_loopw [7] (fun jv w2 => ∃ j : Nat, jv = .int .i64 (j : Int) ∧ a ≤ j ∧ j ≤ i ∧ Hid (∃ L', Pm a b L L' ∧ Ins a i j L' ∧ NumAt w2 base a0 n c L') ∧ Hid (NOut a0 w w2)) (fun jv _ => (intOf jv).toNat)
      case atStart =>
        obtain ⟨L', h1, h2, h3⟩ := HC.out
        exact ⟨i, rfl, by omega, Nat.le_refl _, Lib.hid ⟨L', h1, Ins.start h2, h3⟩, HOU⟩
      case round =>
        clear HC HOU
        obtain ⟨j, rfl, haj, hji, HC, HOU⟩ := hrel
        obtain ⟨L', hpm, hins, hnum⟩ := HC.out
        have HPM := Lib.hid hpm
        have HINS := Lib.hid hins
        have HNUM := Lib.hid hnum
        obtain ⟨q0, hq0⟩ : ∃ q0, q0 = decide (a < j) := ⟨_, rfl⟩
        have hq0i : decide ((a : Int) < (j : Int)) = q0 := by rw [hq0]; by_cases h : a < j <;> simp [h]
        have hq0n : decide (a < j) = q0 := hq0.symm
        obtain ⟨j1, hj1⟩ : ∃ j1, j1 = j - 1 := ⟨_, rfl⟩
        have HJ1 := Lib.hid hj1
        obtain ⟨x, hx⟩ : ∃ x, x = nat_ L' j := ⟨_, rfl⟩
        obtain ⟨y, hy⟩ : ∃ y, y = nat_ L' j1 := ⟨_, rfl⟩
        obtain ⟨q1, hq1⟩ : ∃ q1, q1 = decide (x < y) := ⟨_, rfl⟩
        have HXY := Lib.hid (And.intro hx (And.intro hy hq1))
        have HQ0 := Lib.hid hq0
        have hT : q0 = true → a < j := fun h => by rw [hq0] at h; exact of_decide_eq_true h
        have HCL := Lib.hid (show ∀ W, Below wr.heap.size wr W → W.cell? (a0.add j) = some (.int .u32 (x : Int)) ∧ W.cell? (a0.add j1) = some (.int .u32 (y : Int)) from fun W hW => by
          rw [hx, hy]
          exact ⟨((hnum.past hW).get (by omega)).1, ((hnum.past hW).get (by omega)).1⟩)
        have HLX := Lib.hid (fun W => HLS.out x y W)
        rw [← hq1] at HLX
        have hjn : j < n := by omega
        have hj1n : j1 < n := by omega
        have hsub : q0 = true → IntKind.i64.wrap ((j : Int) - 1) = (j1 : Int) := fun h => by have := hT h; rw [show (j : Int) - 1 = (j1 : Int) by omega]; exact IntWalk.i64_in _ (by omega)
        have HCC := Lib.hid (fun W (hW : Below wr.heap.size wr W) => HOU.out.trans (.of_below hW))
        clear hpm hins hnum hx hy hq1 hq0 HC hj1
        go_wp2_with fail
        refine Gw.wp_region_grow (inG a0 n c a j j1 x y q0 q1) [16, 17, 18, 19, 20, 21, 22, 23, 24, 25, 26, 27, 28, 29, 30] [([7], none), ([1], none), ([16, 17], none), ([18], none), ([0, 19], some (19, true)), ([7, 19], some (19, true)), ([20, 21, 19], some (19, true)), ([22, 19], some (19, true)), ([0, 19], some (19, true)), ([7, 19], some (19, true)), ([25, 19], some (19, true)), ([24, 26, 19], some (19, true)), ([27, 19], some (19, true)), ([23, 28, 19], some (19, true)), ([19, 29], none)] 49 (by kernel_rfl) (by kernel_rfl) rfl ?h0 ?hreq ?hend
        case h0 =>
          intro t W hnd _
          unfold inG
          split <;> first | (exfalso; apply hnd; decide) | rfl | trivial
        case hreq =>
          refine ⟨?_, ?_, ?_, ?_, ?_, ?_, ?_, ?_, ?_, ?_, ?_, ?_, ?_, ?_, ?_, trivial⟩
          all_goals
            intro ac W hg hk
            obtain ⟨x0, y0⟩ := HCL.out W hg
            simp only [Gw.Knows, inG] at hk
            try (first
              | (simp [go_sem, Gw.OpReq, Gw.Ok, Gw.Post, Gw.Holds, inG, Gw.Grows.refl, hk, hq0i, hq0n, x0, y0]; done)
              | (rcases Bool.eq_false_or_eq_true q0 with hq | hq
                 · have h1 := hT hq
                   have h2 := hsub hq
                   simp [go_sem, Gw.OpReq, Gw.Ok, Gw.Post, Gw.Holds, inG, Gw.Grows.refl, hk, hq, x0, y0, hjn, hj1n, h2]
                   done
                 · simp [go_sem, Gw.OpReq, Gw.Ok, Gw.Post, Gw.Holds, inG, Gw.Grows.refl, hk, hq]
                   done))
          rcases Bool.eq_false_or_eq_true q0 with hq | hq
          · simp [go_sem, Gw.OpReq, Gw.Ok, Gw.Post, Gw.Holds, inG, Gw.Grows.refl, hk, hq]
            refine (HLX.out W).mono ?_
            rintro e W' ⟨rfl, rfl⟩
            exact ⟨_, rfl, Gw.Grows.refl _, fun _ _ => rfl⟩
          · simp [go_sem, Gw.OpReq, Gw.Ok, Gw.Post, Gw.Holds, inG, Gw.Grows.refl, hk, hq]
        case hend =>
          intro y2 w5 hg hy2
          have h30 := (hy2 30 (by simp)).now
          simp only [inG] at h30
          have HG5 := Lib.hid (show Below wr.heap.size wr w5 from hg)
          clear hg hy2
          simp only [Gw.putAll, Act.put, List.setIfInBounds_toArray, List.set_cons_zero, List.set_cons_succ]
          rw [h30]
          have HN5 := Lib.hid (HNUM.out.past HG5.out)
          have HO5 := Lib.hid (HCC.out w5 HG5.out)
          cases hq : (q0 && q1) with
          | true =>
            rw [Bool.and_eq_true] at hq
            have h1 := hT hq.1
            have h2 := hsub hq.1
            have hj1 := HJ1.out
            have hlt3 : x < y := by rw [HXY.out.2.2] at hq; exact of_decide_eq_true hq.2
            obtain ⟨x0, xf⟩ := HN5.out.get (i := j) hjn
            obtain ⟨y0, yf⟩ := HN5.out.get (i := j1) hj1n
            rw [← HXY.out.1] at x0
            rw [← HXY.out.2.1] at y0
            rw [hj1] at y0 yf
            have hjj : j ≠ j - 1 := by omega
            have hjk : j - 1 < n := by omega
            obtain ⟨v', hv'⟩ := cell?_setCell_some (p := a0.add j) (x := .int .u32 (y : Int)) y0
            have hvf : (w5.setCell (a0.add j) (.int .u32 (y : Int))).frozen? (a0.add (j - 1)) = false := by rw [World.frozen?_setCell]; exact yf
            clear h2 hj1
            clear hq hq0i hq0n hT hsub h30
            go_wp2_with fail
            go_region
            obtain ⟨hs1, hs2⟩ := HN5.out.swap (i := j) (j := j - 1) (x := x) (y := y) hjn hjk HXY.out.1 (by have h := HXY.out.2.1; rw [HJ1.out] at h; exact h)
            have HNX := Lib.hid (show ∃ L'', Pm a b L L'' ∧ Ins a i (j - 1) L'' ∧ NumAt ((w5.setCell (a0.add j) (.int .u32 (y : Int))).setCell (a0.add (j - 1)) (.int .u32 (x : Int))).drew base a0 n c L'' from
              ⟨swp L' j (j - 1), HPM.out.trans (Pm.swp haj (by omega) (by omega) (by omega) (by rw [HN5.out.len]; omega)), HINS.out.step h1 hji (by rw [HN5.out.len]; omega) (by rw [← HXY.out.1, ← HJ1.out, ← HXY.out.2.1]; exact hlt3), hs1⟩)
            have HOX := Lib.hid (HO5.out.trans hs2)
            clear hs1 hs2 x0 xf y0 yf hv' hvf
            go_wp2
            go_roundw
            case rel => exact ⟨j - 1, by go_num, by omega, by omega, HNX, HOX⟩
            case measure => simp [intOf]; omega
          | false =>
            have HSO := Lib.hid (show ∃ L', Pm a b L L' ∧ So a (i + 1) L' ∧ NumAt w5 base a0 n c L' from ⟨L', HPM.out, HINS.out.done haj hji (by
              rw [← hq0n, HXY.out.2.2] at hq
              by_cases h : a < j
              · right
                rw [decide_eq_true h, Bool.true_and] at hq
                have := of_decide_eq_false hq
                rw [HXY.out.1, HXY.out.2.1, HJ1.out] at this
                omega
              · left; omega), HN5.out⟩)
            clear hq hq0i hq0n hT hsub h30
            go_wp2
            go_roundw
            case rel => exact ⟨i + 1, by go_num, by omega, .inl (by omega), HSO, HO5⟩
            case measure => simp [intOf]; omega
    · have hlt2 : ¬ (i : Int) < (b : Int) := by omega
      have FIN := Lib.hid (show NPost w base a0 n c a b L (So a b) (.tuple #[]) (.returned (.tuple #[])) wr from by
        obtain ⟨L', h1, h2, h3⟩ := HC.out
        refine ⟨rfl, L', h1, ?_, h3, HOU.out⟩
        rcases hib with h | h
        · have e : i = b := by omega
          rw [e] at h2; exact h2
        · exact So.few (by omega))
      go_wp2
      go_end0
      exact FIN.out
end Go.Proofs.Yteaibgnelnblnaa
end
