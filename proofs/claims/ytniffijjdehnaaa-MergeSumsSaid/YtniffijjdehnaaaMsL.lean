/- MergeSplits: an edge whose weight is split into two comes to the same rows. -/
import Derived.Test.YtniffijjdehnaaaMsK
import Derived.Test.YtniffijjdehnaaaMsP
import Derived.Test.YtniffijjdehnaaaMRows
namespace Go.Proofs.Ytniffijjdehnaaa
open Go.RowKit Me Tx Ed Mg Va

theorem edCells_set : ∀ {l : List EdD} {k : Nat} {x : EdD} (p : Nat), l[k]? = some x → edCells (l.set k ⟨x.src, x.dst, p⟩) = (edCells l).set (k * 3 + 2) (.int .u32 (p : Int))
  | [], k, x, p, h => by simp at h
  | y :: l, 0, x, p, h => by
    simp at h
    subst h
    rfl
  | y :: l, k + 1, x, p, h => by
    have := edCells_set (l := l) (k := k) (x := x) p (by simpa using h)
    rw [List.set_cons_succ, show (k + 1) * 3 + 2 = k * 3 + 2 + 1 + 1 + 1 by omega]
    simp only [edCells, List.set_cons_succ]
    rw [this]
/-- Rows of edges, sorted: as many as there are edges. -/
theorem sort_fit {l : List EdD} (hf : ∀ x ∈ l, FitE x) : ∀ x ∈ sortE l, FitE x := fun x hx => hf x ((mem_sort l).1 hx)
theorem insE_length (x : EdD) : ∀ l : List EdD, (insE x l).length = l.length + 1
  | [] => rfl
  | y :: l => by
    rw [insE]
    split
    · rfl
    · rw [List.length_cons, insE_length x l, List.length_cons]
theorem sort_fold_length : ∀ (l out : List EdD), (l.foldl (fun out x => insE x out) out).length = l.length + out.length
  | [], out => by simp
  | x :: l, out => by rw [List.foldl_cons, sort_fold_length l, insE_length, List.length_cons]; omega
theorem sort_length (l : List EdD) : (sortE l).length = l.length := by unfold sortE; rw [sort_fold_length]; simp
theorem keysG_len (l : List (List UInt8)) (hl : l.length ≤ 1000) : (rowM (keysG [] none l).1).length ≤ 1000 := by
  rw [rowM_length]
  rcases keysG_few l [] none 0 KeysOk.start with h | ⟨last', h⟩
  · have := h.few; omega
  · have := h.few; omega
/-- What is known of each slot where the other part is put behind. -/
def mpG (a : Addr) (g n c c6 k p r : Nat) (x : EdD) : Gw.Fact := fun s v W =>
  match s with
  | 7 | 47 => v = .slice (some ⟨g, 0, none⟩) n c6
  | 0 | 48 | 53 | 58 => v = .slice (some a) n c
  | 1 | 49 | 54 | 59 => v = .int .i64 (k : Int)
  | 50 | 51 | 55 | 60 => v = .pointer (some (a.add (k * 3)))
  | 52 => v = .int .u32 (x.src : Int)
  | 56 => v = .pointer (some ⟨(a.add (k * 3)).block, (a.add (k * 3)).off + 1, none⟩)
  | 57 => v = .int .u32 (x.dst : Int)
  | 61 => v = .pointer (some ⟨(a.add (k * 3)).block, (a.add (k * 3)).off + 2, none⟩)
  | 62 => v = .int .u32 (x.wgt : Int)
  | 2 | 63 => v = .int .u32 (p : Int)
  | 64 => v = .int .u32 (r : Int)
  | 65 => v = .agg #[.int .u32 (x.src : Int), .int .u32 (x.dst : Int), .int .u32 (r : Int)]
  | 66 => ∃ b, v = .slice (some ⟨b, 0, none⟩) 1 1 ∧ b < W.heap.size ∧ ∀ j u, (edCells [⟨x.src, x.dst, r⟩])[j]? = some u → W.cell? ((⟨b, 0, none⟩ : Addr).add j) = some u
  | _ => True
set_option maxRecDepth 100000 in
set_option maxHeartbeats 4000000 in
theorem mergeSplits_law (A : Option Addr) (n c : Nat) (z : Int) (p : Nat) (l : List EdD) (w : World) (hp : p < 4294967296) (hl : l.length = n) (hnc : n ≤ c) (hc63 : c ≤ 9223372036854775807) (hc : Cs w w.heap.size A (edCells l)) (hf : ∀ x ∈ l, FitE x) :
    Calls Try.prog 7 #[.slice A n c, .int .i64 z, .int .u32 (p : Int)] w fun e w' => e = .returned (.bool true) ∧ Below w.heap.size w w' := by
  have HL := Lib.hid hl
  have HC := Lib.hid hc
  have HF := Lib.hid hf
  have HAW := Lib.hid awake14_any
  obtain ⟨i0, hi0, hz0, hz1, hz2⟩ := info_parts ms_info
  clear hl hc hf
  go_enter Try.func7, Try.ntmps7
  by_cases g1 : (100 : Int) < (n : Int)
  · go_wp2_with fail
    refine (HAW.out _).mono ?_
    rintro e w1 ⟨rfl, hb1⟩
    have HB1 := Lib.hid hb1
    clear hb1
    go_wp2
    go_ret
    exact ⟨rfl, HB1.out⟩
  by_cases g2 : z < 0
  · go_wp2_with fail
    refine (HAW.out _).mono ?_
    rintro e w1 ⟨rfl, hb1⟩
    have HB1 := Lib.hid hb1
    clear hb1
    go_wp2
    go_ret
    exact ⟨rfl, HB1.out⟩
  obtain ⟨k, rfl⟩ : ∃ k : Nat, z = (k : Int) := ⟨z.toNat, by omega⟩
  have g2' : ¬ ((k : Int) < 0) := g2
  by_cases g3 : (n : Int) ≤ (k : Int)
  · go_wp2_with fail
    refine (HAW.out _).mono ?_
    rintro e w1 ⟨rfl, hb1⟩
    have HB1 := Lib.hid hb1
    clear hb1
    go_wp2
    go_ret
    exact ⟨rfl, HB1.out⟩
  have hkn : k < n := by omega
  by_cases g4 : p = 0
  · subst g4
    go_wp2_with fail
    refine (HAW.out _).mono ?_
    rintro e w1 ⟨rfl, hb1⟩
    have HB1 := Lib.hid hb1
    clear hb1
    go_wp2
    go_ret
    exact ⟨rfl, HB1.out⟩
  have g4' : ((p : Int) == 0) = false := by simp; omega
  obtain ⟨x, hx⟩ : ∃ x, l[k]? = some x := ⟨_, List.getElem?_eq_getElem (by rw [HL.out]; exact hkn)⟩
  obtain ⟨a, rfl, hab, hat⟩ := eds_at HC.out hx
  obtain ⟨x0, x1, x2⟩ := hat
  have hFX := HF.out x (List.mem_of_getElem? hx)
  have HX := Lib.hid hx
  have CX := Lib.hid (⟨x0, x1, x2⟩ : EdAt w (a.add (k * 3)) x)
  have hk2 : (k : Int) < (n : Int) := by omega
  clear hx
  by_cases g5 : (x.wgt : Int) ≤ (p : Int)
  · go_wp2_with fail
    refine (HAW.out _).mono ?_
    rintro e w1 ⟨rfl, hb1⟩
    have HB1 := Lib.hid hb1
    clear hb1
    go_wp2
    go_ret
    exact ⟨rfl, HB1.out⟩
  have hpx : p < x.wgt := by omega
  obtain ⟨r, hr⟩ : ∃ r, r = x.wgt - p := ⟨_, rfl⟩
  obtain ⟨m, hm⟩ : ∃ m, m = l.set k ⟨x.src, x.dst, p⟩ := ⟨_, rfl⟩
  have HM := Lib.hid hm
  have HR := Lib.hid hr
  have HSPL := Lib.hid (show rowsG [] none (sortE l) = rowsG [] none (sortE (m ++ [⟨x.src, x.dst, r⟩])) from by rw [hm, hr]; exact splits_same HX.out (by omega) hpx)
  have HFM := Lib.hid (show ∀ y ∈ m ++ [⟨x.src, x.dst, r⟩], FitE y from fun y hy => by
    obtain ⟨f1, f2, f3⟩ := hFX
    rcases List.mem_append.1 hy with hy | hy
    · rw [hm] at hy
      rcases List.mem_or_eq_of_mem_set hy with hy | rfl
      · exact HF.out y hy
      · exact ⟨f1, f2, by show p < _; omega⟩
    · rw [List.mem_singleton.1 hy]
      exact ⟨f1, f2, by show r < _; omega⟩)
  have HLM := Lib.hid (show m.length = n by rw [hm, List.length_set, HL.out])
  have HO0 := Lib.hid (show (w.alloc (.cells #[] 24)).ownsRow w.heap.size 24 3 (.slice (some ⟨w.heap.size, 0, none⟩) 0 0) 0 [] from ⟨rfl, .inr ⟨w.heap.size, 0, #[], rfl, Nat.le_refl _, heap_alloc_new w _, Nat.le_refl _, by decide, rfl, rfl⟩⟩)
  have HN1 := Lib.hid (show (edCells l).length = n * 3 by rw [edCells_length, HL.out])
  have HK1 := Lib.hid (show ∀ W, Below w.heap.size w W → ∀ j u, (edCells l)[j]? = some u → W.cell? (a.add j) = some u from fun W hW j u hu => by
    obtain ⟨a', ha, hb', h1⟩ := HC.out (by have := (List.getElem?_eq_some_iff.1 hu).1; omega)
    injection ha with ha
    subst ha
    exact (hW.cell (by rw [block_add]; exact hb')).trans (h1 j u hu))
  have HMX := Lib.hid (show 0 + n ≤ maxLen ∧ (0 + n) * 12 ≤ 140737488355328 by unfold maxLen; omega)
  clear hr hm hFX
  go_wp2_with (at_builtin
               go_loud (refine wpList_append_own_at _ rfl (.tmp 39) (.tmp 40) 53 rfl w.heap.size 24 i0 _ 3 12 Try.underlying53 hi0 hz0 hz1 hz2 rfl (by decide) (.slice (some ⟨w.heap.size, 0, none⟩) 0 0) 0 [] rfl HO0.out a n c (edCells l) rfl HN1.out (HK1.out _ ((Below.refl _ _).alloc (Nat.le_refl _) _)) edCells_one HMX.out.1 HMX.out.2 (by rw [World.size_alloc]; omega) ?_)
               intro v6 w6 ho6 hg6 hnn6 hn6
               refine Classical.byContradiction fun hcontra => ?_)
  rw [Nat.zero_add, List.nil_append] at ho6
  obtain ⟨g, c6, hv6, hgb⟩ := ho6.form (by omega)
  subst hv6
  have hw6 := hg6.size
  have hb6 : Below w.heap.size w w6 := (((Below.refl _ w).alloc (Nat.le_refl _) (.cells #[] 24)).grown hg6 (by rw [World.size_alloc]; omega) (fun k e => by cases e; exact Nat.le_refl _))
  have hj : k * 3 + 2 < n * 3 := by omega
  have hn6 := (own_bounds ho6).1
  have hk3 : (k : Int) ≤ (c6 : Int) := by omega
  have hcell : w6.cell? ⟨g, k * 3 + 2, none⟩ = some (.int .u32 (x.wgt : Int)) := by rw [ho6.cellAt _ hj]; exact (edCells_get HX.out).2.2
  have hfrz : w6.frozen? ⟨g, k * 3 + 2, none⟩ = false := ho6.frozenAt _
  obtain ⟨w7, hw7⟩ : ∃ w7, w7 = w6.setCell ⟨g, k * 3 + 2, none⟩ (.int .u32 (p : Int)) := ⟨_, rfl⟩
  obtain ⟨hst, hgr⟩ := ho6.stored (k * 3 + 2) (.int .u32 (p : Int))
  rw [← hw7] at hst hgr
  have HO7 := Lib.hid (show w7.ownsRow w.heap.size 24 3 (.slice (some ⟨g, 0, none⟩) n c6) n (edCells m) from by rw [HM.out, edCells_set p HX.out]; exact hst)
  have HB7 := Lib.hid (show Below w.heap.size w w7 from hb6.grown hgr hb6.size (fun j e => by injection e with e; rw [← e]; exact hgb.1))
  have HW7 := Lib.hid hw7
  clear hg6 hnn6 hst hgr hw7 x0 x1 x2 hb6 HO0 ho6
  apply hcontra
  clear hcontra
  go_upto_region 5 with fail
  rw [← HW7.out]
  have hrw : IntKind.u32.wrap ((x.wgt : Int) - (p : Int)) = (r : Int) := by
    have h1 := HR.out
    have h2 := (HF.out x (List.mem_of_getElem? HX.out)).2.2
    rw [IntKind.wrap_u32]
    omega
  refine wp_region_tlT (tail := [_, _]) 20 (mpG a g n c c6 k p r x) [47, 48, 49, 50, 51, 52, 53, 54, 55, 56, 57, 58, 59, 60, 61, 62, 63, 64, 65, 66] [([7], none), ([0], none), ([1], none), ([48, 49], none), ([50], none), ([51], none), ([0], none), ([1], none), ([53, 54], none), ([55], none), ([56], none), ([0], none), ([1], none), ([58, 59], none), ([60], none), ([61], none), ([2], none), ([62, 63], none), ([52, 57, 64], none), ([65], none)] 93 (by kernel_rfl) (by kernel_rfl) rfl ?h0 ?hreq rfl ?hend
  case h0 =>
    intro t W hnd _
    unfold mpG
    split <;> first | rfl | trivial | exact absurd (by simp) hnd
  case hreq =>
    refine ⟨?_, ?_, ?_, ?_, ?_, ?_, ?_, ?_, ?_, ?_, ?_, ?_, ?_, ?_, ?_, ?_, ?_, ?_, ?_, ?_, trivial⟩
    all_goals
      intro ac W hg hk
      have hg' : Below w7.heap.size w7 W := hg
      obtain ⟨x0, x1, x2⟩ := (CX.out.past HB7.out).past hg'
      simp only [Gw.Knows, mpG] at hk
      try (simp [go_sem, Gw.OpReq, Gw.Ok, Gw.Post, Gw.Holds, mpG, Gw.Grows.refl, hk, x0, x1, x2, hk2, hrw, hkn]; done)
    simp [go_sem, Gw.OpReq, Gw.Ok, Gw.Post, Gw.Holds, mpG, hk]
    refine ⟨(Below.refl _ _).alloc (Nat.le_refl _) _, fun W2 hW2 => ?_⟩
    have hg2 : Below (W.alloc (.cells #[.int .u32 (x.src : Int), .int .u32 (x.dst : Int), .int .u32 (r : Int)] 24)).heap.size (W.alloc (.cells #[.int .u32 (x.src : Int), .int .u32 (x.dst : Int), .int .u32 (r : Int)] 24)) W2 := hW2
    have hs2 := hg2.size
    rw [World.size_alloc] at hs2
    refine ⟨by omega, fun j u hu => ?_⟩
    have h1 := cells_new W (edCells [⟨x.src, x.dst, r⟩]) 24 (by simp [edCells]) j u hu
    rw [show (⟨W.heap.size, 0, none⟩ : Addr).add j = ⟨W.heap.size, j, none⟩ by simp [Addr.add]; omega] at h1
    exact (hg2.cell (by rw [World.size_alloc]; exact Nat.lt_succ_self _)).trans h1
  case hend =>
    intro y w8 hg hy
    have h47 := (hy 47 (by simp)).now
    obtain ⟨b, h66, hb66, hc66⟩ := (hy 66 (by simp)).now
    have hg' : Below w7.heap.size w7 w8 := hg
    simp only [mpG] at h47
    simp only [Gw.putAll, Act.put, List.setIfInBounds_toArray, List.set_cons_zero, List.set_cons_succ]
    rw [h47, h66]
    refine tl_append (.tmp 47) (.tmp 66) 53 rfl w.heap.size 24 i0 _ 3 12 Try.underlying53 hi0 hz0 hz1 hz2 rfl (by decide) (some ⟨g, 0, none⟩) n c6 (edCells m) rfl (own_below' HO7.out hg') ⟨b, 0, none⟩ 1 1 (edCells [⟨x.src, x.dst, r⟩]) rfl rfl hc66 edCells_one (by decide) (by unfold maxLen; omega) (by omega) (by have := HB7.out.size; have := hg'.size; omega) ?_
    intro v9 w9 ho9 hg9 hn9
    obtain ⟨A9, c9, hv9, -⟩ := own_slice' ho9
    subst hv9
    have hb9 : Below w.heap.size w w9 := (HB7.out.trans (hg'.mono HB7.out.size)).grown hg9 (Nat.le_trans HB7.out.size hg'.size) (fun j e => by injection e with e; rw [← e]; exact hgb.1)
    rw [← edCells_append] at ho9
    have HB9 := Lib.hid hb9
    have HO9 := Lib.hid ho9
    obtain ⟨m2, hm2⟩ : ∃ m2, m2 = m ++ [⟨x.src, x.dst, r⟩] := ⟨_, rfl⟩
    rw [← hm2] at HO9 HSPL HFM
    have HLM2 := Lib.hid (show m2.length = n + 1 by rw [hm2, List.length_append, HLM.out]; rfl)
    have HC9 := Lib.hid (fun W (hW : Below w.heap.size w W) => ((HC.out.below hW).more hW.size : Cs W W.heap.size (some a) (edCells l)))
    have hn100 : n ≤ 100 := by omega
    obtain ⟨q, hq⟩ : ∃ q, q = rowsG [] none (sortE l) := ⟨_, rfl⟩
    have HQ1 := Lib.hid (show keysG [] none ((sortE l).map keyB) = q from by rw [hq]; exact keysG_edges _ _ _ (sort_fit HF.out))
    have HQ2 := Lib.hid (show keysG [] none ((sortE m2).map keyB) = q from by rw [hq, HSPL.out]; exact keysG_edges _ _ _ (sort_fit HFM.out))
    clear ho9 hg9 hn9 hb9 h47 h66 hb66 hc66 hg' hg hy hm2 hq HSPL HM HW7 HMX HN1 HK1 hcell hfrz hn6 hw6
    refine ⟨?_⟩
    refine Gw.wp_assign (.tmp 67) _ rfl rfl ?_
    simp only [Gw.seqTail, Act.put, List.setIfInBounds_toArray, List.set_cons_zero, List.set_cons_succ]
    go_wp2_with fail
    refine (rsorted_any (some a) n c l HL.out (by omega) w9 (HC9.out w9 HB9.out)).mono ?_
    rintro e w10 ⟨A10, c10, rfl, ho10, hb10⟩
    have HO10 := Lib.hid ho10
    have HB10 := Lib.hid (HB9.out.trans (hb10.mono HB9.out.size))
    have HM2A := Lib.hid (show Cs w10 w10.heap.size A9 (edCells m2) from ((Cs.of_own HO9.out).below hb10).more hb10.size)
    clear ho10 hb10 HO9
    go_wp2_with fail
    refine (rkeys_any A10 n c10 (sortE l) (by rw [sort_length, HL.out]) (by omega) w10 (Cs.of_own HO10.out) (sort_fit HF.out)).mono ?_
    rintro e w11 ⟨A11, c11, es, rfl, hl11, hc11, hm11, hes, hr11, hb11⟩
    have HB11 := Lib.hid (HB10.out.trans (hb11.mono HB10.out.size))
    have HM11 := Lib.hid (mrows_any A11 n c11 es w11 hl11 (by omega) hr11)
    rw [hes, HQ1.out] at HM11
    have HM2B := Lib.hid (show Cs w11 w11.heap.size A9 (edCells m2) from (HM2A.out.below hb11).more hb11.size)
    have HES := Lib.hid hes
    clear hr11 hb11 hes HO10 HM2A
    go_wp2_with fail
    refine HM11.out.mono ?_
    rintro e w12 ⟨A12, n12, c12, rfl, hl12, hc12, hm12, hr12, hb12⟩
    have HB12 := Lib.hid (HB11.out.trans (hb12.mono HB11.out.size))
    have HR12 := Lib.hid hr12
    have HL12 := Lib.hid hl12
    have HM2C := Lib.hid (show Cs w12 w12.heap.size A9 (edCells m2) from (HM2B.out.below hb12).more hb12.size)
    clear hr12 hb12 hl12 HM2B HM11
    go_wp2_with fail
    refine (rsorted_any A9 (n + 1) c9 m2 HLM2.out (by omega) w12 HM2C.out).mono ?_
    rintro e w13 ⟨A13, c13, rfl, ho13, hb13⟩
    have HO13 := Lib.hid ho13
    have HB13 := Lib.hid hb13
    clear ho13 hb13 HM2C
    go_wp2_with fail
    refine (rkeys_any A13 (n + 1) c13 (sortE m2) (by rw [sort_length, HLM2.out]) (by omega) w13 (Cs.of_own HO13.out) (sort_fit HFM.out)).mono ?_
    rintro e w14 ⟨A14, c14, es2, rfl, hl14, hc14, hm14, hes2, hr14, hb14⟩
    have HB14 := Lib.hid (HB13.out.trans (hb14.mono HB13.out.size))
    have HM14 := Lib.hid (mrows_any A14 (n + 1) c14 es2 w14 hl14 (by omega) hr14)
    have HSML := Lib.hid (keysG_small ((sortE m2).map keyB) (by rw [List.length_map, sort_length, HLM2.out]; omega))
    have HLEN := Lib.hid (keysG_len ((sortE m2).map keyB) (by rw [List.length_map, sort_length, HLM2.out]; omega))
    rw [hes2, HQ2.out] at HM14
    rw [HQ2.out] at HSML HLEN
    clear hr14 hb14 hes2 HO13 HB13
    go_wp2_with fail
    refine HM14.out.mono ?_
    rintro e w15 ⟨A15, n15, c15, rfl, hl15, hc15, hm15, hr15, hb15⟩
    have e12 : n12 = n15 := HL12.out.symm.trans hl15
    subst e12
    have hb125 : Below w12.heap.size w12 w15 := HB14.out.trans (hb15.mono HB14.out.size)
    have HB15 := Lib.hid (HB12.out.trans (hb125.mono HB12.out.size))
    have HS := Lib.hid (msame_any A12 A15 n12 c12 c15 (rowM q.1) w15 hl15 (by have := HLEN.out; omega) HSML.out (HR12.out.past hb125) hr15)
    have d0 : (q.2 == q.2) = true := by simp
    clear hb125 hb15 hr15 hl15 HM14 HB14
    go_wp2_with fail
    refine HS.out.mono ?_
    rintro e w16 ⟨rfl, hb16⟩
    have HB16 := Lib.hid (HB15.out.trans (hb16.mono HB15.out.size))
    clear hb16
    go_wp2_with fail
    refine (HAW.out _).mono ?_
    rintro e w17 ⟨rfl, hb17⟩
    have HB17 := Lib.hid (HB16.out.trans (hb17.mono HB16.out.size))
    clear hb17
    go_wp2
    go_ret
    exact ⟨rfl, HB17.out⟩
end Go.Proofs.Ytniffijjdehnaaa
