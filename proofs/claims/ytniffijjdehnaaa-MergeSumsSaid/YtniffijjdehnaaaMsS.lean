/- palmerref14.Sorted: edges, rising. -/
import Derived.Test.YtniffijjdehnaaaMmL
import Derived.Test.YtniffijjdehnaaaEdM
import Derived.Maps.AppendAt
namespace Go.Proofs.Ytniffijjdehnaaa
open Go.RowKit Me Tx Ed Mg Va

theorem insE_at {x : EdD} : ∀ (l : List EdD) (i : Nat), i ≤ l.length → (∀ j y, j < i → l[j]? = some y → lowE x y = false) → (∀ y, l[i]? = some y → lowE x y = true) → insE x l = l.take i ++ x :: l.drop i
  | [], i, h, _, _ => by
    have : i = 0 := by simpa using h
    subst this
    rfl
  | y :: l, 0, _, _, h2 => by
    rw [insE, if_pos (h2 y rfl)]
    rfl
  | y :: l, i + 1, h, h1, h2 => by
    have hy : lowE x y = false := h1 0 y (by omega) rfl
    rw [insE, if_neg (by rw [hy]; simp), insE_at l i (by simpa using h) (fun j z hj hz => h1 (j + 1) z (by omega) hz) (fun z hz => h2 z hz)]
    rfl
theorem sortE_snoc (l : List EdD) (x : EdD) : sortE (l ++ [x]) = insE x (sortE l) := by
  unfold sortE
  rw [List.foldl_append]
  rfl
theorem ms_info : (Try.prog.info? 24).map (fun i => (i.zero, i.size, i.bytes)) = some (some (.agg #[.int .u32 0, .int .u32 0, .int .u32 0]), 3, 12) := by kernel_rfl
/-- An edge in memory. -/
structure EdAt (w : World) (a : Addr) (p : EdD) : Prop where
  c0 : w.cell? a = some (.int .u32 (p.src : Int))
  c1 : w.cell? ⟨a.block, a.off + 1, none⟩ = some (.int .u32 (p.dst : Int))
  c2 : w.cell? ⟨a.block, a.off + 2, none⟩ = some (.int .u32 (p.wgt : Int))
theorem EdAt.lt {w : World} {a : Addr} {p : EdD} (h : EdAt w a p) : a.block < w.heap.size := World.block_lt_of_cell? _ _ h.c0
theorem EdAt.below {w w' : World} {B : Nat} {a : Addr} {p : EdD} (h : EdAt w a p) (hb : Below B w w') (ha : a.block < B) : EdAt w' a p := ⟨(hb.cell ha).trans h.c0, (hb.cell (p := ⟨a.block, a.off + 1, none⟩) ha).trans h.c1, (hb.cell (p := ⟨a.block, a.off + 2, none⟩) ha).trans h.c2⟩
theorem EdAt.past {w w' : World} {a : Addr} {p : EdD} (h : EdAt w a p) (hb : Below w.heap.size w w') : EdAt w' a p := h.below hb h.lt
theorem eds_at {w : World} {B : Nat} {L : Option Addr} {l : List EdD} {k : Nat} {p : EdD} (h : Cs w B L (edCells l)) (hk : l[k]? = some p) : ∃ a, L = some a ∧ a.block < B ∧ EdAt w (a.add (k * 3)) p := by
  have hlt := (List.getElem?_eq_some_iff.1 hk).1
  obtain ⟨a, rfl, hb, hc⟩ := h (by rw [edCells_length]; omega)
  obtain ⟨h0, h1, h2⟩ := edCells_get hk
  have g1 := hc _ _ h1
  have g2 := hc _ _ h2
  rw [add_field a (k * 3) 0] at g1
  rw [add_field a (k * 3) 1] at g2
  exact ⟨a, rfl, hb, hc _ _ h0, g1, g2⟩
theorem cells_new (w : World) (l : List Value) (T : TypeId) (hl : l ≠ []) : ∀ (j : Nat) (x : Value), l[j]? = some x → (w.alloc (.cells l.toArray T)).cell? ((⟨w.heap.size, 0, none⟩ : Addr).add j) = some x := by
  intro j x hj
  obtain ⟨a, e, -, hc⟩ := Cs.lit w l.toArray T (by cases l with | nil => exact absurd rfl hl | cons y l => simp)
  injection e with e
  subst e
  exact hc j x hj
/-- What is known of each slot of the inner loop's condition. -/
def msG (a al : Addr) (k c n cl i : Nat) (y x : EdD) (q0 q1 : Bool) : Gw.Fact := fun s v _ =>
  match s with
  | 0 => v = .slice (some al) n cl
  | 18 => q0 = true → v = .slice (some al) n cl
  | 3 | 14 => v = .slice (some a) k c
  | 22 => q0 = true → v = .slice (some a) k c
  | 5 | 13 => v = .int .i64 (i : Int)
  | 23 => q0 = true → v = .int .i64 (i : Int)
  | 4 => v = .int .i64 (k : Int)
  | 19 => q0 = true → v = .int .i64 (k : Int)
  | 15 => v = .int .i64 (k : Int)
  | 16 | 17 => v = .bool q0
  | 24 => q0 = true → v = .pointer (some (a.add (i * 3)))
  | 25 => q0 = true → v = Ed.agg y
  | 20 => q0 = true → v = .pointer (some (al.add (k * 3)))
  | 21 => q0 = true → v = Ed.agg x
  | 26 => q0 = true → v = .bool q1
  | 27 => q0 = true → v = .bool (!q1)
  | 28 => v = .bool (q0 && !q1)
  | _ => True
set_option maxRecDepth 100000 in
set_option maxHeartbeats 2000000 in
theorem rsorted_any (Al : Option Addr) (n cl : Nat) (l : List EdD) (hl : l.length = n) (hn : n ≤ 1000000) (w : World) (hc : Cs w w.heap.size Al (edCells l)) :
    Calls Try.prog 21 #[.slice Al n cl] w fun e w' => ∃ A c, e = .returned (.slice A n c) ∧ w'.ownsRow w.heap.size 24 3 (.slice A n c) n (edCells (sortE l)) ∧ Below w.heap.size w w' := by
  have HL := Lib.hid hl
  have HC := Lib.hid hc
  obtain ⟨i0, hi0, hz0, hz1, hz2⟩ := info_parts ms_info
  have H0 := Lib.hid (show (w.alloc (.cells #[] 24)).ownsRow w.heap.size 24 3 (.slice (some ⟨w.heap.size, 0, none⟩) 0 0) 0 (edCells (sortE [])) ∧ Below w.heap.size w (w.alloc (.cells #[] 24)) from
    ⟨⟨rfl, .inr ⟨w.heap.size, 0, #[], rfl, Nat.le_refl _, heap_alloc_new w _, Nat.le_refl _, by decide, rfl, rfl⟩⟩, (Below.refl _ _).alloc (Nat.le_refl _) _⟩)
  clear hl hc
  go_enter Try.func21, Try.ntmps21
  go_wp2
  go_loopw [3, 10] (fun v kv wr => ∃ (k : Nat) (a : Addr) (c : Nat), v = .slice (some a) k c ∧ kv = .int .i64 (k : Int) ∧ k ≤ n ∧ Hid (wr.ownsRow w.heap.size 24 3 (.slice (some a) k c) k (edCells (sortE (l.take k)))) ∧ Hid (Below w.heap.size w wr)) (fun _ kv _ => n - (intOf kv).toNat)
  case atStart => exact ⟨0, ⟨w.heap.size, 0, none⟩, 0, rfl, rfl, Nat.zero_le _, Lib.hid H0.out.1, Lib.hid H0.out.2⟩
  case round =>
    clear H0
    obtain ⟨wo, rfl⟩ : ∃ wo, wo = wr := ⟨_, rfl⟩
    obtain ⟨k, a, c, rfl, rfl, hk, HO, HB⟩ := hrel
    by_cases hlt : k < n
    · obtain ⟨x, hx⟩ : ∃ x, l[k]? = some x := ⟨_, List.getElem?_eq_getElem (by rw [HL.out]; exact hlt)⟩
      obtain ⟨al, rfl, hab, hat⟩ := eds_at HC.out hx
      have CX := Lib.hid (hat.below HB.out (by rw [block_add]; exact hab))
      obtain ⟨S, hS⟩ : ∃ S, S = sortE (l.take k) := ⟨_, rfl⟩
      have HS := Lib.hid hS
      rw [← hS] at HO
      have HSL := Lib.hid (show S.length = k by have := HO.out.1; rw [edCells_length] at this; omega)
      have HX := Lib.hid hx
      have hlt2 : (k : Int) < (n : Int) := by omega
      have HCS := Lib.hid (Cs.of_own HO.out)
      have HGL := Lib.hid (World.ownsRow.lt HO.out a.block rfl).2
      clear hx hat hS hab
      go_wp2
      go_loopw [5] (fun iv w2 => ∃ i : Nat, iv = .int .i64 (i : Int) ∧ i ≤ k ∧ Hid (∀ j y, j < i → S[j]? = some y → lowE x y = false) ∧ Hid (Below wo.heap.size wo w2)) (fun iv _ => k - (intOf iv).toNat)
      case atStart => exact ⟨0, rfl, Nat.zero_le _, Lib.hid (fun j y hj => by omega), Lib.hid (Below.refl _ _)⟩
      case round =>
        obtain ⟨i, rfl, hik, HI, HB2⟩ := hrel
        obtain ⟨q0, hq0⟩ : ∃ q0, decide ((i : Int) < (k : Int)) = q0 := ⟨_, rfl⟩
        obtain ⟨y, hy⟩ : ∃ y, y = S.getD i ⟨0, 0, 0⟩ := ⟨_, rfl⟩
        obtain ⟨q1, hq1⟩ : ∃ q1, lowE x y = q1 := ⟨_, rfl⟩
        have HY := Lib.hid hy
        have hq0n : decide (i < k) = q0 := by rw [← hq0]; simp
        have hT : q0 = true → i < k := fun h => by rw [← hq0n] at h; exact of_decide_eq_true h
        have HCY := Lib.hid (show q0 = true → ∀ W, Below wr.heap.size wr W → EdAt W (a.add (i * 3)) y from fun h W hW => by
          have hik2 := hT h
          obtain ⟨a', ha, -, h1⟩ := eds_at (k := i) (p := y) HCS.out (by rw [hy, List.getD_eq_getElem?_getD, List.getElem?_eq_getElem (by rw [HSL.out]; exact hik2)]; rfl)
          injection ha with ha
          subst ha
          exact (h1.past HB2.out).past hW)
        have HCX := Lib.hid (show ∀ W, Below wr.heap.size wr W → EdAt W (al.add (k * 3)) x from fun W hW => (CX.out.past HB2.out).past hW)
        have HBE := Lib.hid (show ∀ W, Calls Try.prog 13 #[Ed.agg x, Ed.agg y] W fun e w' => e = .returned (.bool q1) ∧ Below W.heap.size W w' from fun W => by rw [← hq1]; exact rbelow_any x y W)
        clear hy
        go_wp2_with fail
        refine Gw.wp_region_grow (msG a al k c n cl i y x q0 q1) [13, 14, 15, 16, 17, 18, 19, 20, 21, 22, 23, 24, 25, 26, 27, 28] [([5], none), ([3], none), ([14], none), ([13, 15], none), ([16], none), ([0, 17], some (17, true)), ([4, 17], some (17, true)), ([18, 19, 17], some (17, true)), ([20, 17], some (17, true)), ([3, 17], some (17, true)), ([5, 17], some (17, true)), ([22, 23, 17], some (17, true)), ([24, 17], some (17, true)), ([21, 25, 17], some (17, true)), ([26, 17], some (17, true)), ([17, 27], none)] 50 (by kernel_rfl) (by kernel_rfl) rfl ?h0 ?hreq ?hend
        case h0 =>
          intro t W hnd _
          unfold msG
          split <;> first | (exfalso; apply hnd; decide) | rfl | trivial
        case hreq =>
          refine ⟨?_, ?_, ?_, ?_, ?_, ?_, ?_, ?_, ?_, ?_, ?_, ?_, ?_, ?_, ?_, ?_, trivial⟩
          all_goals
            intro ac W hg hk
            obtain ⟨x0, x1, x2⟩ := HCX.out W hg
            have zy := fun h => HCY.out h W hg
            simp only [Gw.Knows, msG] at hk
            try (first
              | (simp [go_sem, Gw.OpReq, Gw.Ok, Gw.Post, Gw.Holds, msG, Gw.Grows.refl, hk, hq0, hq0n, hq1, x0, x1, x2]; done)
              | (rcases Bool.eq_false_or_eq_true q0 with hq | hq
                 · have hik9 := hT hq
                   obtain ⟨y0, y1, y2⟩ := zy hq
                   simp [go_sem, Gw.OpReq, Gw.Ok, Gw.Post, Gw.Holds, msG, Gw.Grows.refl, hk, hq, hq1, hik9, hlt, x0, x1, x2, y0, y1, y2]
                   done
                 · simp [go_sem, Gw.OpReq, Gw.Ok, Gw.Post, Gw.Holds, msG, Gw.Grows.refl, hk, hq]
                   done))
          all_goals
            rcases Bool.eq_false_or_eq_true q0 with hq | hq
            · simp [go_sem, Gw.OpReq, Gw.Ok, Gw.Post, Gw.Holds, msG, Gw.Grows.refl, hk, hq]
              refine (HBE.out W).mono ?_
              rintro e W' ⟨rfl, hb3⟩
              exact ⟨_, rfl, hb3, fun _ _ => rfl⟩
            · simp [go_sem, Gw.OpReq, Gw.Ok, Gw.Post, Gw.Holds, msG, Gw.Grows.refl, hk, hq]
        case hend =>
          intro y2 w5 hg hy2
          have h28 := (hy2 28 (by simp)).now
          simp only [msG] at h28
          have HB5 := Lib.hid (HB2.out.trans (Below.mono (show Below wr.heap.size wr w5 from hg) HB2.out.size))
          clear hg hy2
          simp only [Gw.putAll, Act.put, List.setIfInBounds_toArray, List.set_cons_zero, List.set_cons_succ]
          rw [h28]
          cases hq : (q0 && !q1) with
          | true =>
            rw [Bool.and_eq_true] at hq
            have hik9 := hT hq.1
            have HN := Lib.hid (show ∀ j z, j < i + 1 → S[j]? = some z → lowE x z = false from fun j z hj hz => by
              by_cases hji : j < i
              · exact HI.out j z hji hz
              · have e : j = i := by omega
                subst e
                have h1 : y = z := by rw [HY.out, List.getD_eq_getElem?_getD, hz]; rfl
                have h2 := hq.2
                rw [← h1, hq1]
                simpa using h2)
            clear hq1 hq0 hq0n hT h28
            go_wp2
            go_roundw
            case rel => exact ⟨i + 1, by go_num, by omega, HN, HB5⟩
            case measure => simp [intOf]; omega
          | false =>
            have HNX := Lib.hid (show ∀ z, S[i]? = some z → lowE x z = true from fun z hz => by
              have hil : i < S.length := (List.getElem?_eq_some_iff.1 hz).1
              have h0 : q0 = true := by rw [← hq0n]; simp; have := HSL.out; omega
              rw [h0, Bool.true_and] at hq
              have h1 : y = z := by rw [HY.out, List.getD_eq_getElem?_getD, hz]; rfl
              rw [← h1, hq1]
              simpa using hq)
            have HINS := Lib.hid (show sortE (l.take (k + 1)) = S.take i ++ x :: S.drop i from by
              rw [List.take_add_one, HX.out]
              show sortE (l.take k ++ [x]) = _
              rw [sortE_snoc, ← HS.out]
              exact insE_at S i (by rw [HSL.out]; exact hik) HI.out HNX.out)
            have HK5 := Lib.hid (show ∀ W, Below w5.heap.size w5 W → ∀ j u, (edCells S)[j]? = some u → W.cell? (a.add j) = some u from fun W hW j u hu => by
              obtain ⟨a', ha, hb', h1⟩ := HCS.out (by have := (List.getElem?_eq_some_iff.1 hu).1; omega)
              injection ha with ha
              subst ha
              exact (hW.cell (by rw [block_add]; have := HB5.out.size; omega)).trans ((HB5.out.cell (by rw [block_add]; exact hb')).trans (h1 j u hu)))
            have hs5 := HB5.out.size
            have hws := HB.out.size
            obtain ⟨x0, x1, x2⟩ := CX.out.past HB5.out
            have hxl : (al.add (k * 3)).block < w5.heap.size := World.block_lt_of_cell? _ _ x0
            have hik2 : (i : Int) ≤ (k : Int) := by omega
            have hkc := (own_bounds HO.out).1
            have hic : (i : Int) ≤ (c : Int) := by omega
            have hkc2 : (k : Int) ≤ (c : Int) := by omega
            clear hq hq1 hq0 hq0n hT h28 HCY HCX HY HI
            have HOWN := Lib.hid (own_bounds HO.out)
            have HO5 := Lib.hid (show (w5.alloc (.cells #[] 24)).ownsRow w5.heap.size 24 3 (.slice (some ⟨w5.heap.size, 0, none⟩) 0 0) 0 [] from ⟨rfl, .inr ⟨w5.heap.size, 0, #[], rfl, Nat.le_refl _, heap_alloc_new w5 _, Nat.le_refl _, by decide, rfl, rfl⟩⟩)
            have HN1 := Lib.hid (show (edCells (S.take i)).length = i * 3 by rw [edCells_length, List.length_take, HSL.out]; omega)
            have HN2 := Lib.hid (show ∀ W, Below w5.heap.size w5 W → ∀ j u, (edCells (S.take i))[j]? = some u → W.cell? (a.add j) = some u from fun W hW j u hu => by
              rw [← edCells_take, List.getElem?_take] at hu
              split at hu
              · exact HK5.out W hW j u hu
              · cases hu)
            have HMX := Lib.hid (show 0 + i ≤ maxLen ∧ (0 + i) * 12 ≤ 140737488355328 by unfold maxLen; omega)
            go_wp2_with (at_builtin
                         go_loud (refine wpList_append_own_at _ rfl (.tmp 31) (.tmp 34) 53 rfl w5.heap.size 24 i0 _ 3 12 Try.underlying53 hi0 hz0 hz1 hz2 rfl (by decide) (.slice (some ⟨w5.heap.size, 0, none⟩) 0 0) 0 [] rfl HO5.out a i c (edCells (S.take i)) rfl HN1.out (HN2.out _ ((Below.refl _ _).alloc (Nat.le_refl _) _)) edCells_one HMX.out.1 HMX.out.2 (by rw [World.size_alloc]; omega) ?_)
                         intro v6 w6 ho6 hg6 hnn6 hn6
                         refine Classical.byContradiction fun hcontra => ?_)
            obtain ⟨A6, c6, hv6, -⟩ := own_slice' ho6
            subst hv6
            rw [Nat.zero_add] at hcontra
            have hb6 : Below w5.heap.size w5 w6 := (((Below.refl _ w5).alloc (Nat.le_refl _) (.cells #[] 24)).grown hg6 (by rw [World.size_alloc]; omega) (fun k e => by cases e; exact Nat.le_refl _))
            have HO6 := Lib.hid (show w6.ownsRow w5.heap.size 24 3 (.slice A6 i c6) i (edCells (S.take i)) from by rw [Nat.zero_add, List.nil_append] at ho6; exact ho6)
            obtain ⟨y0, y1, y2'⟩ := (CX.out.past HB5.out).past hb6
            have hs6 := hb6.size
            have HB6 := Lib.hid hb6
            obtain ⟨w6a, hw6a⟩ : ∃ w6a, w6a = w6.alloc (.cells #[.int .u32 (x.src : Int), .int .u32 (x.dst : Int), .int .u32 (x.wgt : Int)] 24) := ⟨_, rfl⟩
            have HC6 := Lib.hid (show ∀ j u, (edCells [x])[j]? = some u → w6a.cell? ((⟨w6.heap.size, 0, none⟩ : Addr).add j) = some u from by rw [hw6a]; exact cells_new w6 (edCells [x]) _ (by simp [edCells]))
            have HO6a := Lib.hid (show w6a.ownsRow w5.heap.size 24 3 (.slice A6 i c6) i (edCells (S.take i)) from by rw [hw6a]; exact HO6.out.alloc _)
            have HS6a := Lib.hid (show w6a.heap.size = w6.heap.size + 1 by rw [hw6a]; simp)
            have HMX7 := Lib.hid (show i + 1 ≤ maxLen ∧ (i + 1) * 12 ≤ 140737488355328 by unfold maxLen; omega)
            have HW6A := Lib.hid hw6a
            clear ho6 hg6 hnn6 hn6 hb6 x0 x1 x2 hw6a
            apply hcontra
            clear hcontra
            go_wp2_with (at_builtin
                         rw [← HW6A.out]
                         go_loud (refine wpList_append_own_at _ rfl (.tmp 36) (.tmp 41) 53 rfl w5.heap.size 24 i0 _ 3 12 Try.underlying53 hi0 hz0 hz1 hz2 rfl (by decide) (.slice A6 i c6) i _ rfl HO6a.out ⟨w6.heap.size, 0, none⟩ 1 1 (edCells [x]) rfl rfl HC6.out edCells_one HMX7.out.1 HMX7.out.2 (by rw [HS6a.out]; omega) ?_)
                         intro v7 w7 ho7 hg7 hnn7 hn7
                         refine Classical.byContradiction fun hcontra => ?_)
            obtain ⟨A7, c7, hv7, -⟩ := own_slice' ho7
            subst hv7
            have hs7 : w5.heap.size ≤ w7.heap.size := by have := hg7.size; rw [HS6a.out] at this; omega
            have hb67 : Below w5.heap.size w5 w7 := (HB6.out.trans ((show Below w6.heap.size w6 w6a by rw [HW6A.out]; exact (Below.refl _ _).alloc (Nat.le_refl _) _).mono HB6.out.size)).grown hg7 (by rw [HS6a.out]; omega) (fun j e => (HO6a.out.lt j e).1)
            have HB7 := Lib.hid hb67
            have HO7 := Lib.hid ho7
            have HN3 := Lib.hid (show (edCells (S.drop i)).length = (k - i) * 3 by rw [edCells_length, List.length_drop, HSL.out])
            have HMX8 := Lib.hid (show i + 1 + (k - i) ≤ maxLen ∧ (i + 1 + (k - i)) * 12 ≤ 140737488355328 by unfold maxLen; omega)
            have HS7 := Lib.hid hs7
            have HSD := Lib.hid (show ∀ j u, (edCells (S.drop i))[j]? = some u → j < (k - i) * 3 ∧ w7.cell? (a.add (i * 3 + j)) = some u from fun j u hu => by
              have hj : j < (k - i) * 3 := by have := (List.getElem?_eq_some_iff.1 hu).1; rw [HN3.out] at this; exact this
              rw [← edCells_drop, List.getElem?_drop] at hu
              exact ⟨hj, HK5.out w7 hb67 _ u hu⟩)
            have HLST := Lib.hid (show edCells (S.take i) ++ edCells [x] ++ edCells (S.drop i) = edCells (sortE (l.take (k + 1))) from by rw [HINS.out, ← edCells_append, ← edCells_append]; simp)
            have HBW7 := Lib.hid (HB.out.trans ((HB5.out.trans (hb67.mono HB5.out.size)).mono HB.out.size))
            clear ho7 hg7 hnn7 hn7 hb67 y0 y1 y2' hs7
            apply hcontra
            clear hcontra
            by_cases hci : c = i
            · have HK7 := Lib.hid (show ∀ j u, (edCells (S.drop i))[j]? = some u → w7.cell? (a.add j) = some u from fun j u hu => by
                have := (HSD.out j u hu).1
                omega)
              go_wp2_with (at_builtin
                           go_loud (refine wpList_append_own_at _ rfl (.tmp 43) (.tmp 46) 53 rfl w5.heap.size 24 i0 _ 3 12 Try.underlying53 hi0 hz0 hz1 hz2 rfl (by decide) (.slice A7 (i + 1) c7) (i + 1) _ rfl HO7.out a (k - i) 0 (edCells (S.drop i)) rfl HN3.out HK7.out edCells_one HMX8.out.1 HMX8.out.2 HS7.out ?_)
                           intro v8 w8 ho8 hg8 hnn8 hn8
                           refine Classical.byContradiction fun hcontra => ?_)
              rw [show i + 1 + (k - i) = k + 1 by omega, HLST.out] at ho8
              obtain ⟨g8, c8, hv8, -⟩ := ho8.form (Nat.succ_pos k)
              subst hv8
              have HB8 := Lib.hid (show Below w.heap.size w w8 from HBW7.out.grown hg8 (Nat.le_trans HBW7.out.size (Nat.le_refl _)) (fun j e => by have := (HO7.out.lt j e).1; omega))
              have HO8 := Lib.hid (own_more ho8 (show w.heap.size ≤ w5.heap.size by omega))
              clear ho8 hg8 hnn8 hn8
              apply hcontra
              clear hcontra
              go_wp2
              go_roundw
              case rel => exact ⟨k + 1, ⟨g8, 0, none⟩, c8, rfl, by go_num, by omega, HO8, HB8⟩
              case measure => simp [intOf]; omega
            · have HK7 := Lib.hid (show ∀ j u, (edCells (S.drop i))[j]? = some u → w7.cell? ((a.add (i * 3)).add j) = some u from fun j u hu => by
                rw [add_add]
                exact (HSD.out j u hu).2)
              go_wp2_with (at_builtin
                           go_loud (refine wpList_append_own_at _ rfl (.tmp 43) (.tmp 46) 53 rfl w5.heap.size 24 i0 _ 3 12 Try.underlying53 hi0 hz0 hz1 hz2 rfl (by decide) (.slice A7 (i + 1) c7) (i + 1) _ rfl HO7.out (a.add (i * 3)) (k - i) (c - i) (edCells (S.drop i)) rfl HN3.out HK7.out edCells_one HMX8.out.1 HMX8.out.2 HS7.out ?_)
                           intro v8 w8 ho8 hg8 hnn8 hn8
                           refine Classical.byContradiction fun hcontra => ?_)
              rw [show i + 1 + (k - i) = k + 1 by omega, HLST.out] at ho8
              obtain ⟨g8, c8, hv8, -⟩ := ho8.form (Nat.succ_pos k)
              subst hv8
              have HB8 := Lib.hid (show Below w.heap.size w w8 from HBW7.out.grown hg8 (Nat.le_trans HBW7.out.size (Nat.le_refl _)) (fun j e => by have := (HO7.out.lt j e).1; omega))
              have HO8 := Lib.hid (own_more ho8 (show w.heap.size ≤ w5.heap.size by omega))
              clear ho8 hg8 hnn8 hn8
              apply hcontra
              clear hcontra
              go_wp2
              go_roundw
              case rel => exact ⟨k + 1, ⟨g8, 0, none⟩, c8, rfl, by go_num, by omega, HO8, HB8⟩
              case measure => simp [intOf]; omega
    · have e : k = n := by omega
      subst e
      have HE := Lib.hid (show sortE (l.take k) = sortE l by rw [List.take_of_length_le (by rw [HL.out]; exact Nat.le_refl _)])
      have HO9 := Lib.hid (show wo.ownsRow w.heap.size 24 3 (.slice (some a) k c) k (edCells (sortE l)) by rw [← HE.out]; exact HO.out)
      clear HO HE
      go_wp2
      go_ret
      exact ⟨some a, c, rfl, HO9.out, HB.out⟩
end Go.Proofs.Ytniffijjdehnaaa
