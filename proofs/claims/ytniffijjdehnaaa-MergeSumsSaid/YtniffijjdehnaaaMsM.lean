/- MergeSums: the sums over edges with one vertex, the sums that rows tell, the pairs. -/
import Derived.Test.YtniffijjdehnaaaMsL
import Derived.Test.YtniffijjdehnaaaMsQ
import Derived.Test.YtniffijjdehnaaaMRows
import Derived.Test.YtniffijjdehnaaaRefMay
import Derived.Deep.QuietTactic
import Derived.BigQuiet
namespace Go.Proofs.Ytniffijjdehnaaa
open Go.RowKit Me Tx Ed Mg Va

theorem below_drewN (w : World) (q : Nat) : Below w.heap.size w (w.drewN q) := ⟨rfl, rfl, rfl, Nat.le_refl _, fun _ _ => rfl⟩
theorem add_u64 {a b c : Nat} (h : a + b = c) (hc : c < 18446744073709551616) : IntKind.u64.wrap ((a : Int) + (b : Int)) = (c : Int) := by rw [IntKind.wrap_u64]; omega
theorem conv_u64 {a : Nat} (h : a < 18446744073709551616) : IntKind.u64.wrap (a : Int) = (a : Int) := by rw [IntKind.wrap_u64]; omega
theorem add_u32 {a b c : Nat} (h : a + b = c) (hc : c < 4294967296) : IntKind.u32.wrap ((a : Int) + (b : Int)) = (c : Int) := by rw [IntKind.wrap_u32]; omega
theorem eq_cast (a b : Nat) : ((a : Int) == (b : Int)) = decide (a = b) := by
  by_cases h : a = b
  · subst h; simp
  · rw [decide_eq_false h]; simp; omega
/-- What is known of each slot where a row is asked. -/
def m23 (b : Addr) (P : Option Addr) (m c1 i i1 n1 c2 s s1 : Nat) (q0 : Bool) : Gw.Fact := fun t v _ =>
  match t with
  | 7 | 89 | 97 => v = .slice (some b) m c1
  | 10 | 90 | 98 | 106 => v = .int .i64 (i : Int)
  | 91 | 99 => v = .pointer (some (b.add (i * 2)))
  | 92 | 100 => v = .pointer (some ⟨(b.add (i * 2)).block, (b.add (i * 2)).off + 1, none⟩)
  | 93 | 101 => v = .slice P n1 c2
  | 94 => v = .bool true
  | 95 | 96 | 103 | 104 | 105 | 121 | 122 => v = .bool false
  | 102 => v = .int .i64 (n1 : Int)
  | 107 | 108 => v = .bool q0
  | 109 | 114 => q0 = true → v = .slice (some b) m c1
  | 110 | 115 => q0 = true → v = .int .i64 (i : Int)
  | 111 | 112 => q0 = true → v = .pointer (some (b.add (i * 2)))
  | 113 => q0 = true → v = .int .u32 (s : Int)
  | 116 => q0 = true → v = .int .i64 (i1 : Int)
  | 117 | 118 => q0 = true → v = .pointer (some (b.add (i1 * 2)))
  | 119 => q0 = true → v = .int .u32 (s1 : Int)
  | 120 => q0 = true → v = .bool false
  | _ => True
set_option maxRecDepth 100000 in
set_option maxHeartbeats 8000000 in
theorem mergeSums_law (A : Option Addr) (n c : Nat) (l : List EdD) (w : World) (hl : l.length = n) (hnc : n ≤ c) (hc63 : c ≤ 9223372036854775807) (hc : Cs w w.heap.size A (edCells l)) (hf : ∀ x ∈ l, FitE x) :
    Calls Try.prog 6 #[.slice A n c] w fun e w' => e = .returned (.bool true) ∧ Below w.heap.size w w' := by
  have HL := Lib.hid hl
  have HC := Lib.hid hc
  have HF := Lib.hid hf
  have HAW := Lib.hid awake14_any
  clear hl hc hf
  go_enter Try.func6, Try.ntmps6
  by_cases g1 : (100 : Int) < (n : Int)
  · go_wp2_with fail
    refine (HAW.out _).mono ?_
    rintro e w1 ⟨rfl, hb1⟩
    have HB1 := Lib.hid hb1
    clear hb1
    go_wp2
    go_ret
    exact ⟨rfl, HB1.out⟩
  have hn : n ≤ 100 := by omega
  go_wp2
  go_loopw [3, 4] (fun ov iv wr => ∃ k : Nat, k ≤ n ∧ iv = .int .i64 (k : Int) ∧ ov = .bool (overE l k) ∧ Hid (∀ j x, j < k → l[j]? = some x → 0 < x.wgt) ∧ Hid (Below w.heap.size w wr)) (fun _ iv _ => n - (intOf iv).toNat)
  case atStart => exact ⟨0, Nat.zero_le _, rfl, by simp [overE], Lib.hid (fun j x hj => by omega), Lib.hid (Below.refl _ _)⟩
  case round =>
    obtain ⟨k, hk, rfl, rfl, HP, HB⟩ := hrel
    obtain ⟨o, ho⟩ : ∃ o, o = overE l k := ⟨_, rfl⟩
    rw [← ho]
    have HO := Lib.hid ho
    clear ho
    by_cases hlt : k < n
    · obtain ⟨x, hx⟩ : ∃ x, l[k]? = some x := ⟨_, List.getElem?_eq_getElem (by rw [HL.out]; exact hlt)⟩
      obtain ⟨a, rfl, hab, hat⟩ := eds_at HC.out hx
      have CX := Lib.hid (hat.below HB.out (by rw [block_add]; exact hab))
      obtain ⟨x0, x1, x2⟩ := CX.out
      have HX := Lib.hid hx
      have hFX := Lib.hid (HF.out x (List.mem_of_getElem? hx))
      have hlt2 : (k : Int) < (n : Int) := by omega
      clear hx hat hab
      by_cases hw : x.wgt = 0
      · have d0 : ((x.wgt : Int) == 0) = true := by simp; omega
        go_wp2_with fail
        refine (HAW.out _).mono ?_
        rintro e w1 ⟨rfl, hb1⟩
        have HB1 := Lib.hid (HB.out.trans (hb1.mono HB.out.size))
        clear hb1
        go_wp2
        go_ret
        exact ⟨rfl, HB1.out⟩
      have d0 : ((x.wgt : Int) == 0) = false := by simp; omega
      have HP2 := Lib.hid (show ∀ j y, j < k + 1 → l[j]? = some y → 0 < y.wgt from fun j y hj hy => by
        by_cases hjk : j < k
        · exact HP.out j y hjk hy
        · have e : j = k := by omega
          subst e
          rw [HX.out] at hy
          injection hy with hy
          subst hy
          omega)
      obtain ⟨wo, hwo⟩ : ∃ wo, wo = wr := ⟨_, rfl⟩
      subst hwo
      clear HP hw
      go_wp2
      clear x0 x1 x2
      go_loopw [5, 6] (fun sv jv w2 => ∃ (j s : Nat), j ≤ n ∧ jv = .int .i64 (j : Int) ∧ sv = .int .u64 (s : Int) ∧ Hid (s = wf x.src (l.take j)) ∧ Hid (Below wo.heap.size wo w2)) (fun _ jv _ => n - (intOf jv).toNat)
      case atStart => exact ⟨0, 0, Nat.zero_le _, rfl, rfl, Lib.hid rfl, Lib.hid (Below.refl _ _)⟩
      case round =>
        obtain ⟨j, s, hj, rfl, rfl, HS, HB2⟩ := hrel
        by_cases hjn : j < n
        · obtain ⟨y, hy⟩ : ∃ y, l[j]? = some y := ⟨_, List.getElem?_eq_getElem (by rw [HL.out]; exact hjn)⟩
          obtain ⟨a', ea, hab', hat'⟩ := eds_at HC.out hy
          injection ea with ea
          subst ea
          obtain ⟨y0, y1, y2⟩ := (hat'.below HB.out (by rw [block_add]; exact hab')).past HB2.out
          obtain ⟨x0, x1, x2⟩ := CX.out.past HB2.out
          have HY := Lib.hid hy
          have hjn2 : (j : Int) < (n : Int) := by omega
          obtain ⟨s2, hs2⟩ : ∃ s2, s2 = wf x.src (l.take (j + 1)) := ⟨_, rfl⟩
          have hst := wf_step (f := x.src) hy
          have hbd := wf_few x.src HF.out
          have hbt := wf_take x.src l (j + 1)
          rw [HL.out] at hbd
          rw [← HS.out, ← hs2] at hst
          have HS2 := Lib.hid hs2
          have hs2b : s2 < 18446744073709551616 := by rw [hs2]; omega
          have hyf := (HF.out y (List.mem_of_getElem? hy)).2.2
          clear hy hat' hab' hbd hbt hs2
          by_cases hq : y.src = x.src
          · have d1 : ((y.src : Int) == (x.src : Int)) = true := by rw [eq_cast]; simp [hq]
            rw [if_pos hq] at hst
            have e1 : IntKind.u64.wrap ((s : Int) + (y.wgt : Int)) = (s2 : Int) := add_u64 hst.symm hs2b
            have e2 : IntKind.u64.wrap (y.wgt : Int) = (y.wgt : Int) := conv_u64 (by omega)
            clear hq hst hs2b hyf
            go_wp2_with fail
            go_quiet (fail)
            have HB3 := Lib.hid (HB2.out.trans ((below_drewN _ nq).mono HB2.out.size))
            go_wp2
            go_roundw
            case rel => exact ⟨j + 1, s2, by omega, by go_num, by go_num, HS2, HB3⟩
            case measure => simp [intOf]; omega
          · have d1 : ((y.src : Int) == (x.src : Int)) = false := by rw [eq_cast]; simp [hq]
            rw [if_neg hq, Nat.add_zero] at hst
            clear hq hs2b hyf
            go_wp2_with fail
            go_quiet (fail)
            have HB3 := Lib.hid (HB2.out.trans ((below_drewN _ nq).mono HB2.out.size))
            have HS3 := Lib.hid (show s = wf x.src (l.take (j + 1)) from by rw [← HS2.out, hst])
            clear hst
            go_wp2
            go_roundw
            case rel => exact ⟨j + 1, s, by omega, by go_num, rfl, HS3, HB3⟩
            case measure => simp [intOf]; omega
        · have e : j = n := by omega
          subst e
          have HS3 := Lib.hid (show s = wf x.src l from by rw [HS.out, List.take_of_length_le (by rw [HL.out]; exact Nat.le_refl _)])
          have HOS := Lib.hid (show overE l (k + 1) = (o || decide (2147483647 < s)) from by rw [overE_step HX.out, ← HO.out, HS3.out])
          have HB3 := Lib.hid (HB.out.trans (HB2.out.mono HB.out.size))
          clear HS
          cases o with
          | true =>
            go_wp2
            go_roundw
            case rel => exact ⟨k + 1, by omega, by go_num, by rw [HOS.out]; rfl, HP2, HB3⟩
            case measure => simp [intOf]; omega
          | false =>
            by_cases hs : 2147483647 < s
            · have d1 : (2147483647 : Int) < (s : Int) := by omega
              go_wp2
              go_roundw
              case rel => exact ⟨k + 1, by omega, by go_num, by rw [HOS.out]; simp [hs], HP2, HB3⟩
              case measure => simp [intOf]; omega
            · have d1 : ¬ (2147483647 : Int) < (s : Int) := by omega
              go_wp2
              go_roundw
              case rel => exact ⟨k + 1, by omega, by go_num, by rw [HOS.out]; simp [hs], HP2, HB3⟩
              case measure => simp [intOf]; omega
    · have e : n = k := by omega
      subst e
      have HPOS := Lib.hid (show ∀ x ∈ l, 0 < x.wgt from fun x hx => by
        obtain ⟨i, hi, e⟩ := List.getElem_of_mem hx
        exact HP.out i x (by rw [← HL.out]; exact hi) (by rw [List.getElem?_eq_getElem hi, e]))
      have HOV := Lib.hid (show o = true ↔ ∃ f, 2147483647 < wf f l from by rw [HO.out, ← HL.out]; exact overE_true)
      have HQ := Lib.hid (keysG_edges (sortE l) [] none (sort_fit HF.out))
      clear HP HO
      go_wp2_with fail
      refine (rsorted_any A n c l HL.out (by omega) wr ((HC.out.below HB.out).more HB.out.size)).mono ?_
      rintro e w10 ⟨A10, c10, rfl, ho10, hb10⟩
      have HO10 := Lib.hid ho10
      have HB10 := Lib.hid (HB.out.trans (hb10.mono HB.out.size))
      clear ho10 hb10
      go_wp2_with fail
      refine (rkeys_any A10 n c10 (sortE l) (by rw [sort_length, HL.out]) (by omega) w10 (Cs.of_own HO10.out) (sort_fit HF.out)).mono ?_
      rintro e w11 ⟨A11, c11, es, rfl, hl11, hc11, hm11, hes, hr11, hb11⟩
      have HB11 := Lib.hid (HB10.out.trans (hb11.mono HB10.out.size))
      have HM11 := Lib.hid (mrows_any A11 n c11 es w11 hl11 (by omega) hr11)
      have HSML := Lib.hid (keysG_small ((sortE l).map keyB) (by rw [List.length_map, sort_length, HL.out]; omega))
      have HLEN := Lib.hid (keysG_len ((sortE l).map keyB) (by rw [List.length_map, sort_length, HL.out]; omega))
      rw [hes, HQ.out] at HM11
      rw [HQ.out] at HSML HLEN
      clear hr11 hb11 hes HO10
      go_wp2_with fail
      refine HM11.out.mono ?_
      rintro e w12 ⟨A1, m, c1, rfl, hl12, hc12, hm12, hr12, hb12⟩
      have HB12 := Lib.hid (HB11.out.trans (hb12.mono HB11.out.size))
      have HR12 := Lib.hid hr12
      have HL12 := Lib.hid hl12
      clear hr12 hb12 hl12 HM11
      cases o with
      | true =>
        obtain ⟨hq1, hq2⟩ : rowsG [] none (sortE l) = ([], 10) ∧ True := by
          rcases rows_sort l HPOS.out with ⟨R, h1, -, -, -, h5⟩ | ⟨h1, -⟩
          · obtain ⟨f, hf⟩ := HOV.out.1 rfl
            have := h5 f
            omega
          · exact ⟨h1, trivial⟩
        rw [hq1] at HL12
        have hm0 : m = 0 := HL12.out.symm
        subst hm0
        rw [hq1]
        go_wp2_with fail
        refine (HAW.out _).mono ?_
        rintro e w1 ⟨rfl, hb1⟩
        have HB1 := Lib.hid (HB12.out.trans (hb1.mono HB12.out.size))
        clear hb1
        go_wp2
        go_ret
        exact ⟨rfl, HB1.out⟩
      | false =>
        obtain ⟨R, hR, HSU⟩ : ∃ R, rowsG [] none (sortE l) = (R, 0) ∧ Hid (SumsOk l (rowM R)) := by
          rcases rows_sort l HPOS.out with ⟨R, h1, h2, h3, h4, h5⟩ | ⟨-, h1⟩
          · exact ⟨R, h1, Lib.hid (sums_ok HPOS.out h2 h3 h4 h5)⟩
          · exact absurd (HOV.out.2 h1) (by simp)
        rw [hR] at HL12 HR12 HSML HLEN ⊢
        obtain ⟨L, hL⟩ : ∃ L, L = rowM R := ⟨_, rfl⟩
        dsimp only at HL12 HR12 HSML HLEN
        rw [← hL] at HL12 HR12 HSML HLEN HSU
        have hm : m ≤ 1000 := by rw [← HL12.out]; exact HLEN.out
        clear hL hR HLEN HOV HQ HPOS
        have HDF := Lib.hid (show (dis l).length ≤ n from by have := dis_few l l.length (Nat.le_refl _); rw [List.take_length, HL.out] at this; exact this)
        have HC12 := Lib.hid (show Cs w12 w.heap.size A (edCells l) from HC.out.below HB12.out)
        have HWS := HB12.out.size
        clear hlt hk hl11 hc11 hm11 HB HB10 HB11
        go_wp2
        go_loopw [9, 10] (fun av iv w3 => ∃ i q : Nat, i ≤ m ∧ iv = .int .i64 (i : Int) ∧ av = .int .i64 (q : Int) ∧ Hid (q = cntR (L.take i)) ∧ Hid (Below w12.heap.size w12 w3)) (fun _ iv _ => m - (intOf iv).toNat)
        case atStart => exact ⟨0, 0, Nat.zero_le _, rfl, rfl, Lib.hid rfl, Lib.hid (Below.refl _ _)⟩
        case round =>
          obtain ⟨i, q, him, rfl, rfl, HQC, HB3⟩ := hrel
          obtain ⟨w3, hw3⟩ : ∃ w3, w3 = wr := ⟨_, rfl⟩
          subst hw3
          by_cases hlt : i < m
          · obtain ⟨b, p, r, eb, hget, hbl, hc0, hc1, hat⟩ := (HR12.out.past HB3.out).at (k := i) (by rw [HL12.out]; exact hlt)
            subst eb
            obtain ⟨ps, P, n1, c2⟩ := p
            have hmem := List.mem_of_getElem? hget
            obtain ⟨hmay, hpos⟩ := HSU.out.may_ r hmem
            have hlen := hat.len
            dsimp only at hlen hc0 hc1
            obtain ⟨s, hs⟩ : ∃ s, s = r.1 := ⟨_, rfl⟩
            rw [← hs] at hc0
            have HGET := Lib.hid hget
            have HLEN1 := Lib.hid hlen
            have hn1 : 0 < n1 := by rw [← hlen]; exact hpos
            have HROW := Lib.hid (show ∀ W, Below w3.heap.size w3 W → W.cell? (b.add (i * 2)) = some (.int .u32 (s : Int)) ∧ W.cell? ⟨(b.add (i * 2)).block, (b.add (i * 2)).off + 1, none⟩ = some (.slice P n1 c2) ∧ Arcs W W.heap.size P r.2 from fun W hW =>
              ⟨(hW.cell (by rw [block_add]; exact hbl)).trans hc0, (hW.cell (p := ⟨(b.add (i * 2)).block, (b.add (i * 2)).off + 1, none⟩) (by show (b.add (i * 2)).block < _; rw [block_add]; exact hbl)).trans hc1, (hat.arcs.below hW).more hW.size⟩)
            obtain ⟨q0, hq0⟩ : ∃ q0, decide ((0 : Int) < (i : Int)) = q0 := ⟨_, rfl⟩
            have hq0n : decide (0 < i) = q0 := by rw [← hq0]; simp
            have hT : q0 = true → 0 < i := fun h => by rw [← hq0n] at h; exact of_decide_eq_true h
            obtain ⟨i1, hi1⟩ : ∃ i1, i1 = i - 1 := ⟨_, rfl⟩
            obtain ⟨s1, hs1⟩ : ∃ s1, q0 = true → (s1 < s ∧ ∀ W, Below w3.heap.size w3 W → W.cell? (b.add (i1 * 2)) = some (.int .u32 (s1 : Int))) := by
              cases hq : q0 with
              | false => exact ⟨0, fun h => by cases h⟩
              | true =>
                have h0 := hT hq
                obtain ⟨b', p', r', eb', hget', hbl', hc0', -, -⟩ := (HR12.out.past HB3.out).at (k := i1) (by rw [HL12.out]; omega)
                injection eb' with eb'
                subst eb'
                refine ⟨r'.1, fun _ => ⟨?_, fun W hW => (hW.cell (by rw [block_add]; exact hbl')).trans hc0'⟩⟩
                rw [hs]
                exact HSU.out.rise i1 r' r hget' (by rw [show i1 + 1 = i by omega]; exact hget)
            have HS1 := Lib.hid hs1
            have HMAY := Lib.hid (fun W (hW : Below w3.heap.size w3 W) => refmay_any P n1 c2 r.2 W hlen (by have := HSML.out r hmem; omega) ((hat.arcs.below hW).more hW.size))
            rw [hmay] at HMAY
            have HARC := Lib.hid (HSU.out.sums r hmem)
            have HSS := Lib.hid hs
            have HI1 := Lib.hid hi1
            have him2 : (i : Int) < (m : Int) := by omega
            have hz : ((n1 : Int) == 0) = false := by simp; omega
            have HQN := Lib.hid (show q + n1 = cntR (L.take (i + 1)) from by rw [cnt_take hget, hlen, HQC.out])
            have hqn : q + n1 ≤ 100 := by
              have h1 := cnt_le L (i + 1)
              rw [← HQN.out, HSU.out.num] at h1
              have := HDF.out
              omega
            clear hmem hmay hpos hget hlen hc0 hc1 hat hs hbl hs1 HQC
            go_wp2_with fail
            refine Gw.wp_region_grow (m23 b P m c1 i i1 n1 c2 s s1 q0) [89, 90, 91, 92, 93, 94, 95, 96, 97, 98, 99, 100, 101, 102, 103, 104, 105, 106, 107, 108, 109, 110, 111, 112, 113, 114, 115, 116, 117, 118, 119, 120, 121, 122] [([7], none), ([10], none), ([89, 90], none), ([91], none), ([92], none), ([93], none), ([94], none), ([95], none), ([7, 96], some (96, false)), ([10, 96], some (96, false)), ([97, 98, 96], some (96, false)), ([99, 96], some (96, false)), ([100, 96], some (96, false)), ([101, 96], some (96, false)), ([102, 96], some (96, false)), ([96, 103], none), ([104], none), ([10, 105], some (105, false)), ([106, 105], some (105, false)), ([107, 105], some (105, false)), ([7, 108], some (108, true)), ([10, 108], some (108, true)), ([109, 110, 108], some (108, true)), ([111, 108], some (108, true)), ([112, 108], some (108, true)), ([7, 108], some (108, true)), ([10, 108], some (108, true)), ([115, 108], some (108, true)), ([114, 116, 108], some (108, true)), ([117, 108], some (108, true)), ([118, 108], some (108, true)), ([113, 119, 108], some (108, true)), ([108, 120, 105], some (105, false)), ([105, 121], none)] 238 (by kernel_rfl) (by kernel_rfl) rfl ?h0 ?hreq ?hend
            case h0 =>
              intro t W hnd _
              unfold m23
              split <;> first | (exfalso; apply hnd; decide) | rfl | trivial
            case hreq =>
              refine ⟨?_, ?_, ?_, ?_, ?_, ?_, ?_, ?_, ?_, ?_, ?_, ?_, ?_, ?_, ?_, ?_, ?_, ?_, ?_, ?_, ?_, ?_, ?_, ?_, ?_, ?_, ?_, ?_, ?_, ?_, ?_, ?_, ?_, ?_, trivial⟩
              all_goals
                intro ac W hg hk
                have hg' : Below w3.heap.size w3 W := hg
                obtain ⟨x0, x1, -⟩ := HROW.out W hg'
                simp only [Gw.Knows, m23] at hk
                try (first
                  | (simp [go_sem, Gw.OpReq, Gw.Ok, Gw.Post, Gw.Holds, m23, Gw.Grows.refl, hk, hq0, hq0n, x0, x1, hz, him2, hlt]; done)
                  | (rcases Bool.eq_false_or_eq_true q0 with hq | hq
                     · obtain ⟨z1, z2⟩ := HS1.out hq
                       have z3 := z2 W hg'
                       have h1 := hT hq
                       have h2 := HI1.out
                       have e1 : (i : Int) - 1 = (i1 : Int) := by omega
                       have e2 : (i1 : Int) < (m : Int) := by omega
                       have e3 : i1 < m := by omega
                       have e4 : IntKind.i64.wrap (i1 : Int) = (i1 : Int) := IntWalk.i64_in _ (by omega)
                       have e5 : ¬ s ≤ s1 := by omega
                       have e6 : ¬ (s : Int) ≤ (s1 : Int) := by omega
                       simp [go_sem, Gw.OpReq, Gw.Ok, Gw.Post, Gw.Holds, m23, Gw.Grows.refl, hk, hq, hlt, him2, x0, x1, z3, e1, e2, e3, e4, e5, e6]
                       done
                     · simp [go_sem, Gw.OpReq, Gw.Ok, Gw.Post, Gw.Holds, m23, Gw.Grows.refl, hk, hq]
                       done))
              · simp [go_sem, Gw.OpReq, Gw.Ok, Gw.Post, Gw.Holds, m23, Gw.Grows.refl, hk]
                refine (HMAY.out W hg').mono ?_
                rintro e W' ⟨rfl, hb3⟩
                exact ⟨_, rfl, hb3, fun _ _ => rfl⟩
            case hend =>
              intro y w4 hg hy
              have h122 := (hy 122 (by simp)).now
              simp only [m23] at h122
              have HB4 := Lib.hid (show Below w3.heap.size w3 w4 from hg)
              clear hg hy hq0 hq0n hT HS1 HMAY hz
              simp only [Gw.putAll, Act.put, List.setIfInBounds_toArray, List.set_cons_zero, List.set_cons_succ]
              rw [h122]
              clear h122
              go_wp2
              go_loopw [9, 11] (fun av kv w5 => ∃ k qq : Nat, k ≤ n1 ∧ kv = .int .i64 (k : Int) ∧ av = .int .i64 (qq : Int) ∧ qq = q + k ∧ Hid (Below w3.heap.size w3 w5)) (fun _ kv _ => n1 - (intOf kv).toNat)
              case atStart => exact ⟨0, q, Nat.zero_le _, rfl, rfl, rfl, HB4⟩
              case round =>
                obtain ⟨k, qq, hk, rfl, rfl, hqq, HB5⟩ := hrel
                obtain ⟨w5, hw5⟩ : ∃ w5, w5 = wr := ⟨_, rfl⟩
                subst hw5
                by_cases hkn : k < n1
                · obtain ⟨x0, x1, hA5⟩ := HROW.out w5 HB5.out
                  obtain ⟨pa, p, eP, hp, -, -, -, -, hg32⟩ := hA5.at (k := k) (by rw [HLEN1.out]; exact hkn)
                  subst eP
                  obtain ⟨t, ht⟩ : ∃ t, t = p.to := ⟨_, rfl⟩
                  obtain ⟨g, hg⟩ : ∃ g, g = p.weight := ⟨_, rfl⟩
                  have HPC := Lib.hid (show ∀ W, Below w3.heap.size w3 W → W.cell? (pa.add (k * 2)) = some (.int .u32 (t : Int)) ∧ W.cell? ⟨(pa.add (k * 2)).block, (pa.add (k * 2)).off + 1, none⟩ = some (.int .u32 (g : Int)) from fun W hW => by
                    obtain ⟨-, -, hA⟩ := HROW.out W hW
                    obtain ⟨pa', p', eP', hp', -, h0, h1, -, -⟩ := hA.at (k := k) (by rw [HLEN1.out]; exact hkn)
                    injection eP' with eP'
                    subst eP'
                    rw [hp] at hp'
                    injection hp' with hp'
                    subst hp'
                    rw [ht, hg]
                    exact ⟨h0, h1⟩)
                  rw [← hg] at hg32
                  have HWT := Lib.hid (show wt s t l = g from by rw [HSS.out, ht, hg]; exact HARC.out p (List.mem_of_getElem? hp))
                  have hkn2 : (k : Int) < (n1 : Int) := by omega
                  have HHQ := Lib.hid hqq
                  clear hp ht hg hA5 hqq
                  go_wp2
                  clear x0 x1
                  go_loopw [12, 13] (fun sv jv w6 => ∃ j v : Nat, j ≤ n ∧ jv = .int .i64 (j : Int) ∧ sv = .int .u32 (v : Int) ∧ Hid (v = wt s t (l.take j)) ∧ Hid (Below w3.heap.size w3 w6)) (fun _ jv _ => n - (intOf jv).toNat)
                  case atStart => exact ⟨0, 0, Nat.zero_le _, rfl, rfl, Lib.hid rfl, HB5⟩
                  case round =>
                    obtain ⟨j, v, hj, rfl, rfl, HV, HB6⟩ := hrel
                    obtain ⟨w6, hw6⟩ : ∃ w6, w6 = wr := ⟨_, rfl⟩
                    subst hw6
                    obtain ⟨x0, x1, -⟩ := HROW.out w6 HB6.out
                    obtain ⟨p0, p1⟩ := HPC.out w6 HB6.out
                    by_cases hjn : j < n
                    · obtain ⟨y, hy⟩ : ∃ y, l[j]? = some y := ⟨_, List.getElem?_eq_getElem (by rw [HL.out]; exact hjn)⟩
                      obtain ⟨a', ea, hab', hat'⟩ := eds_at HC12.out hy
                      subst ea
                      obtain ⟨y0, y1, y2⟩ := (hat'.past HB3.out).past HB6.out
                      have hjn2 : (j : Int) < (n : Int) := by omega
                      obtain ⟨v2, hv2⟩ : ∃ v2, v2 = wt s t (l.take (j + 1)) := ⟨_, rfl⟩
                      have hst := wt_step (f := s) (t := t) hy
                      rw [← HV.out, ← hv2] at hst
                      have HV2 := Lib.hid hv2
                      have hvb : v2 < 4294967296 := by
                        have h1 := wt_take s t l (j + 1)
                        rw [HWT.out, ← hv2] at h1
                        omega
                      clear hy hat' hab' hv2
                      by_cases hs1 : y.src = s
                      · have d1 : ((y.src : Int) == (s : Int)) = true := by rw [eq_cast]; simp [hs1]
                        by_cases hs2 : y.dst = t
                        · have d2 : ((y.dst : Int) == (t : Int)) = true := by rw [eq_cast]; simp [hs2]
                          rw [if_pos ⟨hs1, hs2⟩] at hst
                          have e1 : IntKind.u32.wrap ((v : Int) + (y.wgt : Int)) = (v2 : Int) := add_u32 hst.symm hvb
                          clear hst hs1 hs2 hvb
                          go_wp2_with fail
                          go_quiet (fail)
                          have HB7 := Lib.hid (HB6.out.trans ((below_drewN _ nq).mono HB6.out.size))
                          go_wp2
                          go_roundw
                          case rel => exact ⟨j + 1, v2, by omega, by go_num, by go_num, HV2, HB7⟩
                          case measure => simp [intOf]; omega
                        · have d2 : ((y.dst : Int) == (t : Int)) = false := by rw [eq_cast]; simp [hs2]
                          rw [if_neg (fun h => hs2 h.2), Nat.add_zero] at hst
                          have HV3 := Lib.hid (show v = wt s t (l.take (j + 1)) from by rw [← HV2.out, hst])
                          clear hst hs1 hs2 hvb
                          go_wp2_with fail
                          go_quiet (fail)
                          have HB7 := Lib.hid (HB6.out.trans ((below_drewN _ nq).mono HB6.out.size))
                          go_wp2
                          go_roundw
                          case rel => exact ⟨j + 1, v, by omega, by go_num, rfl, HV3, HB7⟩
                          case measure => simp [intOf]; omega
                      · have d1 : ((y.src : Int) == (s : Int)) = false := by rw [eq_cast]; simp [hs1]
                        rw [if_neg (fun h => hs1 h.1), Nat.add_zero] at hst
                        have HV3 := Lib.hid (show v = wt s t (l.take (j + 1)) from by rw [← HV2.out, hst])
                        clear hst hs1 hvb
                        go_wp2_with fail
                        go_quiet (fail)
                        have HB7 := Lib.hid (HB6.out.trans ((below_drewN _ nq).mono HB6.out.size))
                        go_wp2
                        go_roundw
                        case rel => exact ⟨j + 1, v, by omega, by go_num, rfl, HV3, HB7⟩
                        case measure => simp [intOf]; omega
                    · have e : j = n := by omega
                      subst e
                      have hvg : v = g := by rw [HV.out, ← HWT.out, List.take_of_length_le (by rw [HL.out]; exact Nat.le_refl _)]
                      subst hvg
                      have d1 : ((v : Int) != (v : Int)) = false := by simp
                      have hqq := HHQ.out
                      have hq2 : qq + 1 = q + (k + 1) := by omega
                      have hqb : qq ≤ 100 := by omega
                      clear hqq
                      go_wp2
                      go_roundw
                      case rel => exact ⟨k + 1, qq + 1, by omega, by go_num, by go_num, hq2, HB6⟩
                      case measure => simp [intOf]; omega
                · have e : n1 = k := by omega
                  subst e
                  obtain ⟨x0, x1, -⟩ := HROW.out w5 HB5.out
                  have HQ2 := Lib.hid (show qq = cntR (L.take (i + 1)) from by rw [hqq]; exact HQN.out)
                  have HB6 := Lib.hid (HB3.out.trans (HB5.out.mono HB3.out.size))
                  clear hqq
                  go_wp2
                  go_roundw
                  case rel => exact ⟨i + 1, qq, by omega, by go_num, rfl, HQ2, HB6⟩
                  case measure => simp [intOf]; omega
          · have e : m = i := by omega
            subst e
            have HQ2 := Lib.hid (show q = (dis l).length from by rw [HQC.out, ← HSU.out.num, ← HL12.out, cnt_all])
            have hqn : q ≤ 100 := by have := HDF.out; rw [← HQ2.out] at this; omega
            clear HQC HSU HSML HR12 HL12
            go_wp2
            go_loopw [14, 15] (fun pv iv w4 => ∃ i p : Nat, i ≤ n ∧ iv = .int .i64 (i : Int) ∧ pv = .int .i64 (p : Int) ∧ Hid (p = (dis (l.take i)).length) ∧ Hid (Below w12.heap.size w12 w4)) (fun _ iv _ => n - (intOf iv).toNat)
            case atStart => exact ⟨0, 0, Nat.zero_le _, rfl, rfl, Lib.hid rfl, HB3⟩
            case round =>
              obtain ⟨i, p, hi, rfl, rfl, HPD, HB4⟩ := hrel
              obtain ⟨w4, hw4⟩ : ∃ w4, w4 = wr := ⟨_, rfl⟩
              subst hw4
              by_cases hin : i < n
              · obtain ⟨x, hx⟩ : ∃ x, l[i]? = some x := ⟨_, List.getElem?_eq_getElem (by rw [HL.out]; exact hin)⟩
                obtain ⟨a, rfl, hab, hat⟩ := eds_at HC12.out hx
                have CX := Lib.hid (hat.past HB4.out)
                have HX := Lib.hid hx
                have hin2 : (i : Int) < (n : Int) := by omega
                have hpb : p ≤ 100 := by
                  have h1 := dis_few l i (by rw [HL.out]; exact hi)
                  rw [← HPD.out] at h1
                  omega
                clear hx hat hab
                go_wp2
                go_loopw [16, 17] (fun fv kv w5 => ∃ k : Nat, k ≤ i ∧ kv = .int .i64 (k : Int) ∧ fv = .bool (fresh ((l.take i).take k) x) ∧ Hid (Below w4.heap.size w4 w5)) (fun _ kv _ => i - (intOf kv).toNat)
                case atStart => exact ⟨0, Nat.zero_le _, rfl, by simp [fresh], Lib.hid (Below.refl _ _)⟩
                case round =>
                  obtain ⟨k, hk, rfl, rfl, HB5⟩ := hrel
                  obtain ⟨f, hf⟩ : ∃ f, f = fresh ((l.take i).take k) x := ⟨_, rfl⟩
                  rw [← hf]
                  have HF0 := Lib.hid hf
                  obtain ⟨w5, hw5⟩ : ∃ w5, w5 = wr := ⟨_, rfl⟩
                  subst hw5
                  clear hf
                  by_cases hki : k < i
                  · obtain ⟨y, hy⟩ : ∃ y, l[k]? = some y := ⟨_, List.getElem?_eq_getElem (by rw [HL.out]; omega)⟩
                    obtain ⟨a', ea, hab', hat'⟩ := eds_at HC12.out hy
                    injection ea with ea
                    subst ea
                    obtain ⟨y0, y1, y2⟩ := (hat'.past HB4.out).past HB5.out
                    obtain ⟨x0, x1, x2⟩ := CX.out.past HB5.out
                    have hkn : (k : Int) < (n : Int) := by omega
                    have HFS := Lib.hid (show fresh ((l.take i).take (k + 1)) x = (f && (y.src != x.src || y.dst != x.dst)) from by rw [fresh_step hki hy, ← HF0.out])
                    clear hy hat' hab'
                    cases f with
                    | false =>
                      go_wp2_with fail
                      go_quiet (fail)
                      have HB7 := Lib.hid (HB5.out.trans ((below_drewN _ nq).mono HB5.out.size))
                      go_wp2
                      go_roundw
                      case rel => exact ⟨k + 1, by omega, by go_num, by rw [HFS.out]; rfl, HB7⟩
                      case measure => simp [intOf]; omega
                    | true =>
                      by_cases hs1 : y.src = x.src
                      · have d1 : ((y.src : Int) != (x.src : Int)) = false := by rw [bne, eq_cast]; simp [hs1]
                        by_cases hs2 : y.dst = x.dst
                        · have d2 : ((y.dst : Int) != (x.dst : Int)) = false := by rw [bne, eq_cast]; simp [hs2]
                          have HFT := Lib.hid (show fresh ((l.take i).take (k + 1)) x = false from by rw [HFS.out]; simp [hs1, hs2])
                          clear hs1 hs2
                          go_wp2_with fail
                          go_quiet (fail)
                          have HB7 := Lib.hid (HB5.out.trans ((below_drewN _ nq).mono HB5.out.size))
                          go_wp2
                          go_roundw
                          case rel => exact ⟨k + 1, by omega, by go_num, by rw [HFT.out], HB7⟩
                          case measure => simp [intOf]; omega
                        · have d2 : ((y.dst : Int) != (x.dst : Int)) = true := by rw [bne, eq_cast]; simp [hs2]
                          have HFT := Lib.hid (show fresh ((l.take i).take (k + 1)) x = true from by rw [HFS.out]; simp [hs2])
                          clear hs1 hs2
                          go_wp2_with fail
                          go_quiet (fail)
                          have HB7 := Lib.hid (HB5.out.trans ((below_drewN _ nq).mono HB5.out.size))
                          go_wp2
                          go_roundw
                          case rel => exact ⟨k + 1, by omega, by go_num, by rw [HFT.out], HB7⟩
                          case measure => simp [intOf]; omega
                      · have d1 : ((y.src : Int) != (x.src : Int)) = true := by rw [bne, eq_cast]; simp [hs1]
                        have HFT := Lib.hid (show fresh ((l.take i).take (k + 1)) x = true from by rw [HFS.out]; simp [hs1])
                        clear hs1
                        go_wp2_with fail
                        go_quiet (fail)
                        have HB7 := Lib.hid (HB5.out.trans ((below_drewN _ nq).mono HB5.out.size))
                        go_wp2
                        go_roundw
                        case rel => exact ⟨k + 1, by omega, by go_num, by rw [HFT.out], HB7⟩
                        case measure => simp [intOf]; omega
                  · have e : k = i := by omega
                    subst e
                    have HDS := Lib.hid (show (dis (l.take (k + 1))).length = p + if f = true then 1 else 0 from by
                      rw [dis_step HX.out, ← HPD.out, HF0.out, List.take_take, Nat.min_self])
                    have HB7 := Lib.hid (HB4.out.trans (HB5.out.mono HB4.out.size))
                    clear HF0
                    cases f with
                    | true =>
                      have HD2 := Lib.hid (show p + 1 = (dis (l.take (k + 1))).length from by rw [HDS.out]; rfl)
                      go_wp2
                      go_roundw
                      case rel => exact ⟨k + 1, p + 1, by omega, by go_num, by go_num, HD2, HB7⟩
                      case measure => simp [intOf]; omega
                    | false =>
                      have HD2 := Lib.hid (show p = (dis (l.take (k + 1))).length from by rw [HDS.out]; rfl)
                      go_wp2
                      go_roundw
                      case rel => exact ⟨k + 1, p, by omega, by go_num, rfl, HD2, HB7⟩
                      case measure => simp [intOf]; omega
              · have e : n = i := by omega
                subst e
                have hpq : p = q := by rw [HPD.out, HQ2.out, List.take_of_length_le (by rw [HL.out]; exact Nat.le_refl _)]
                subst hpq
                have d1 : ((p : Int) == (p : Int)) = true := by simp
                have HB7 := Lib.hid (HB12.out.trans (HB4.out.mono HB12.out.size))
                go_wp2_with fail
                refine (HAW.out _).mono ?_
                rintro e w8 ⟨rfl, hb8⟩
                have HB8 := Lib.hid (HB7.out.trans (hb8.mono HB7.out.size))
                clear hb8
                go_wp2
                go_ret
                exact ⟨rfl, HB8.out⟩
end Go.Proofs.Ytniffijjdehnaaa
