/- Whether a table is right: May. -/
import Derived.Test.YtoflbfkmkalgcaaAlQ
namespace Go.Proofs.Ytoflbfkmkalgcaa
open Go.RowKit Me Va Al

/-- What the draws come to behind some cells. -/
def Drw (S n : Nat) (T : List CelD) (k : Nat) (D : List Nat) : Prop := ∀ j, j < n → gt D j = Al.cnt S j (T.take k)
theorem Drw.next {S n k : Nat} {T : List CelD} {D : List Nat} {c : CelD} (h : Drw S n T k D) (hl : D.length = n) (hc : T[k]? = some c) (hk : k < n) (ho : c.oth < n) (hcut : c.cut ≤ S) :
    Drw S n T (k + 1) ((D.set k (gt D k + c.cut)).set c.oth (gt (D.set k (gt D k + c.cut)) c.oth + (S - c.cut))) := by
  intro j hj
  have h0 := h j hj
  have q1 : j = k → gt D k = gt D j := fun e => by rw [e]
  have q2 : j = c.oth → gt D c.oth = gt D j := fun e => by rw [← e]
  rw [cnt_take hc, gt_set (by rw [List.length_set, hl]; exact ho), gt_set (by rw [hl]; exact hk), gt_set (by rw [hl]; exact hk)]
  unfold share
  rw [Nat.min_eq_left hcut]
  split <;> split <;> split <;> first | omega | (split <;> first | omega | (split <;> omega))
theorem made_u64 (n : Nat) : (madeCells (Value.int .u64 0).cells (n * 1)).toList = uCells (List.replicate n 0) := by
  rw [Nat.mul_one]
  have e : (Value.int .u64 0).cells = #[Value.int .u64 0] := rfl
  rw [e]
  unfold madeCells uCells
  apply List.ext_getElem?
  intro i
  by_cases hi : i < n
  · simp [hi, Nat.mod_one]
  · simp [hi]
set_option maxRecDepth 100000 in
set_option maxHeartbeats 4000000 in
theorem mayT_any (L : Option Addr) (n c : Nat) (l : List ArcD) (A : Option Addr) (m cT : Nat) (T : List CelD) (w : World) (hl : l.length = n) (hn : n ≤ 1000000) (hm : T.length = m) (hm2 : m ≤ 1000000) (hr : Arcs w w.heap.size L l) (hc : Cels w w.heap.size A T) :
    Calls Try.prog 20 #[.slice L n c, .slice A m cT] w fun e w' => e = .returned (.bool (mayT l T)) ∧ Below w.heap.size w w' := by
  obtain ⟨i0, hi0, hz0, hz1, hz2⟩ := info_parts u64_info
  have HNB := Lib.hid (amay_any L n c l w hl (by omega) hr)
  obtain ⟨g, hg⟩ : ∃ g, g = good l := ⟨_, rfl⟩
  rw [← hg] at HNB
  cases g with
  | false =>
    have FIN := Lib.hid (mayT_no1 (T := T) hg.symm)
    clear hl hm hr hc hg
    go_enter Try.func20, Try.ntmps20
    go_wp2_with fail
    refine HNB.out.mono ?_
    rintro e w1 ⟨rfl, hb1⟩
    go_wp2
    go_ret
    exact ⟨ret_bool FIN.out.symm, hb1⟩
  | true =>
    by_cases hmn : m = n
    · subst hmn
      obtain ⟨S, hS⟩ : ∃ S, S = sumOf l := ⟨_, rfl⟩
      have hS31 : S ≤ 2147483647 := by rw [hS]; exact may_sum (good_may hg.symm).2
      have hm0 : 0 < m := by rw [← hl]; exact (good_may hg.symm).1
      have HSM := Lib.hid (show ∀ W, Below w.heap.size w W → Calls Try.prog 32 #[.slice L m c] W (fun e W' => e = .returned (.int .u64 (S : Int)) ∧ Below W.heap.size W W') from fun W hW => by rw [hS]; exact sum_any L m c l W hl (by omega) ((hr.below hW).more hW.size))
      have HSH := Lib.hid (fun cut oth hc W => shares_any cut oth S hc (by omega) W)
      have HG := Lib.hid hg
      have HSS := Lib.hid hS
      have HL := Lib.hid hl
      have HLT := Lib.hid hm
      have HR := Lib.hid hr
      have HC := Lib.hid hc
      have v1 : IntKind.u64.wrap (m : Int) = (m : Int) := IntWalk.u64_in _ (by omega)
      have HBY := Lib.hid (show i0.bytes * m ≤ 281474976710656 by rw [hz2]; omega)
      have HMX := Lib.hid (show m ≤ maxLen by unfold maxLen; omega)
      clear hl hm hr hc hg hS
      go_enter Try.func20, Try.ntmps20
      go_wp2_with fail
      refine HNB.out.mono ?_
      rintro e w1 ⟨rfl, hb1⟩
      have HB1 := Lib.hid hb1
      clear hb1 HNB
      have d0 : ((m : Int) != (m : Int)) = false := by simp
      go_wp2_with fail
      refine (HSM.out w1 HB1.out).mono ?_
      rintro e w2 ⟨rfl, hb2⟩
      have HB2 := Lib.hid (HB1.out.trans (hb2.mono HB1.out.size))
      clear hb2 HSM
      go_wp2_with (refine wpList_make_full w2 rfl _ _ 41 rfl w2.heap.size 24 i0 _ 1 Try.underlying41 hi0 hz0 hz1 .i64 .i64 _ _ m rfl rfl rfl rfl HBY.out HMX.out (Nat.le_refl _) ?_
                   intro w3 ho3 hg3
                   have HO3 := Lib.hid ho3
                   have HG3 := Lib.hid hg3
                   clear ho3 hg3)
      obtain ⟨aD, haD⟩ : ∃ aD : Addr, aD = ⟨w2.heap.size, 0, none⟩ := ⟨_, rfl⟩
      rw [← haD]
      have hb23 : Below w2.heap.size w2 w3 := (Below.refl _ _).grown HG3.out (Nat.le_refl _) (fun k e => by cases e)
      have HB3 := Lib.hid (HB2.out.trans (hb23.mono HB2.out.size))
      have HD0 := Lib.hid (show UAt w3 w2.heap.size aD m m (List.replicate m 0) from by
        have := HO3.out
        rw [made_u64, ← haD] at this
        exact ⟨this⟩)
      have HZ := Lib.hid (show Drw S m T 0 (List.replicate m 0) from fun j hj => by
        have : gt (List.replicate m 0) j = 0 := by unfold gt; rw [List.getD_eq_getElem?_getD, List.getElem?_replicate]; split <;> rfl
        rw [this]; rfl)
      have HC3 := Lib.hid ((HC.out.below HB3.out).more HB3.out.size)
      have hw32 := HB2.out.size
      clear haD hb23 HO3 HG3
      go_loopw [33] (fun i wr => ∃ (k : Nat) (D : List Nat), k ≤ m ∧ i = .int .i64 k ∧ Hid (∀ j x, j < k → T[j]? = some x → okCel S m x = true) ∧ Hid (Drw S m T k D) ∧ Hid (UAt wr w2.heap.size aD m m D) ∧ Hid (Below w.heap.size w wr)) (fun i _ => m - (intOf i).toNat)
      case atStart => exact ⟨0, _, Nat.zero_le _, rfl, Lib.hid (fun j x hj => by omega), HZ, HD0, HB3⟩
      case round =>
        clear HZ HD0 HB3 HC3
        obtain ⟨k, D, hk, rfl, HOK, HDR, HD, HB⟩ := hrel
        by_cases hlt : k < m
        · have hlt2 : (k : Int) < (m : Int) := by omega
          obtain ⟨a, x, rfl, hx, ha, h0, h1, h2, h3⟩ := (HC.out.below HB.out).at (k := k) (by rw [HLT.out]; exact hlt)
          have HX := Lib.hid hx
          have hbl : a.block < wr.heap.size := by have := HB.out.size; omega
          clear hx
          by_cases c1 : S < x.cut
          · have d1 : (S : Int) < (x.cut : Int) := by omega
            have FIN := Lib.hid (mayT_no3 HX.out (show okCel (sumOf l) l.length x = false by unfold okCel; rw [← HSS.out]; simp; intro h; omega))
            go_wp2
            go_ret
            exact ⟨ret_bool FIN.out.symm, HB.out⟩
          · have d1 : ¬ (S : Int) < (x.cut : Int) := by omega
            have v2 : IntKind.u64.wrap (x.oth : Int) = (x.oth : Int) := IntWalk.u64_in _ (by omega)
            by_cases c2 : m ≤ x.oth
            · have d2 : (m : Int) ≤ (x.oth : Int) := by omega
              have FIN := Lib.hid (mayT_no3 HX.out (show okCel (sumOf l) l.length x = false by unfold okCel; rw [HL.out]; simp; intro _; omega))
              go_wp2
              go_ret
              exact ⟨ret_bool FIN.out.symm, HB.out⟩
            · have d2 : ¬ (m : Int) ≤ (x.oth : Int) := by omega
              have hom : x.oth < m := by omega
              have hom2 : (x.oth : Int) < (m : Int) := by omega
              have HOK2 := Lib.hid (show ∀ j y, j < k + 1 → T[j]? = some y → okCel S m y = true from fun j y hj hy => by
                rcases Nat.lt_or_eq_of_le (Nat.le_of_lt_succ hj) with e | e
                · exact HOK.out j y e hy
                · subst e
                  rw [HX.out] at hy
                  injection hy with hy
                  subst hy
                  unfold okCel
                  simp
                  omega)
              have hsh : min x.cut S = x.cut := Nat.min_eq_left (by omega)
              obtain ⟨r, hr⟩ : ∃ r, r = S - x.cut := ⟨_, rfl⟩
              have HSX := Lib.hid (fun W => HSH.out x.cut x.oth h2 W)
              rw [hsh, ← hr] at HSX
              have HNX := Lib.hid (HDR.out.next HD.out.len HX.out hlt hom (by omega))
              rw [← hr] at HNX
              have HCF := Lib.hid (show ∀ W2, Below wr.heap.size wr W2 → W2.cell? ⟨(a.add (k * 2)).block, (a.add (k * 2)).off + 1, none⟩ = some (.int .u32 (x.oth : Int)) from fun W2 hW => (hW.cell (p := ⟨(a.add (k * 2)).block, (a.add (k * 2)).off + 1, none⟩) (by show (a.add (k * 2)).block < _; rw [block_add]; exact hbl)).trans h1)
              have hrl : r < 4294967296 := by omega
              have HR1 := Lib.hid (show gt D k < 9223372036854775808 ∧ gt (D.set k (gt D k + x.cut)) x.oth < 9223372036854775808 ∧ gt D k + x.cut < 9223372036854775808 from by
                have b1 : ∀ j, j < m → gt D j ≤ 1000000 * (2 * 2147483647) := fun j hj => by
                  rw [HDR.out j hj]
                  have h4 := cnt_le S j (T.take k)
                  have : (T.take k).length * (2 * S) ≤ 1000000 * (2 * 2147483647) := Nat.mul_le_mul (by rw [List.length_take]; omega) (by omega)
                  omega
                have b2 := b1 k hlt
                have b3 := b1 x.oth hom
                rw [gt_set (by rw [HD.out.len]; exact hlt)]
                split <;> omega)
              clear hr hsh
              go_wp2_with fail
              refine (HSX.out wr).mono ?_
              rintro e w4 ⟨rfl, hb4⟩
              have g1 := HCF.out w4 hb4
              have HD4 := Lib.hid (HD.out.past hb4)
              have HB4 := Lib.hid (HB.out.trans (hb4.mono HB.out.size))
              clear hb4 h0 h1
              obtain ⟨r0, f0, lo1, -⟩ := HD4.out.get (i := k) hlt
              obtain ⟨y, hy⟩ : ∃ y, y = gt D k := ⟨_, rfl⟩
              obtain ⟨y1, hy1⟩ : ∃ y1, y1 = y + x.cut := ⟨_, rfl⟩
              have s1 : (y : Int) + (x.cut : Int) = (y1 : Int) := by omega
              have hy1l : y1 < 9223372036854775808 := by rw [hy1, hy]; exact HR1.out.2.2
              have hyl : y < 9223372036854775808 := by rw [hy]; exact HR1.out.1
              have HD5 := Lib.hid (HD4.out.put hlt y1)
              have hba : aD.block ≠ a.block := fun e => by omega
              have e1 : y1 = gt D k + x.cut := by rw [hy1, hy]
              rw [← hy] at r0
              rw [← e1] at HR1 HNX
              obtain ⟨w5, hw5⟩ : ∃ w5, w5 = w4.setCell (aD.add k) (.int .u64 (y1 : Int)) := ⟨_, rfl⟩
              rw [← hw5] at HD5
              have HB5 := Lib.hid (show Below w.heap.size w w5 by rw [hw5]; exact HB4.out.setCell (p := aD.add k) (by rw [block_add]; omega) _)
              have g2 : w5.cell? ⟨(a.add (k * 2)).block, (a.add (k * 2)).off + 1, none⟩ = some (.int .u32 (x.oth : Int)) := by
                rw [hw5, World.cell?_setCell_other _ _ _ _ (fun e => hba (by have := congrArg Addr.block e; simpa [block_add] using this))]
                exact g1
              have HW5 := Lib.hid hw5
              clear hw5 hy hy1 e1
              go_upto_region 12 with fail
              rw [← HW5.out]
              obtain ⟨r1, f1, -, -⟩ := HD5.out.get (i := x.oth) hom
              obtain ⟨z, hz⟩ : ∃ z, z = gt (D.set k y1) x.oth := ⟨_, rfl⟩
              obtain ⟨z1, hz1'⟩ : ∃ z1, z1 = z + r := ⟨_, rfl⟩
              have s2 : (z : Int) + (r : Int) = (z1 : Int) := by omega
              have hzl : z < 9223372036854775808 := by rw [hz]; exact HR1.out.2.1
              have hz1l : z1 < 13835058055282163712 := by omega
              rw [← hz] at r1 HNX
              rw [← hz1'] at HNX
              have HD6 := Lib.hid (HD5.out.put hom z1)
              have HB6 := Lib.hid (HB5.out.setCell (p := aD.add x.oth) (by rw [block_add]; omega) (.int .u64 (z1 : Int)))
              clear r0 f0 g1 hz hz1' HD4 HB4 HD5 HB5
              go_wp2
              go_roundw
              case rel => exact ⟨k + 1, _, by omega, by go_num, HOK2, HNX, HD6, HB6⟩
              case measure => simp [intOf]; omega
        · have e : k = m := by omega
          subst e
          go_wp2
          go_loopw [83] (fun i w6 => ∃ j : Nat, j ≤ k ∧ i = .int .i64 j ∧ Hid (∀ q, q < j → Al.cnt S q T = gt (restsOf l) q) ∧ Hid (Below wr.heap.size wr w6)) (fun i _ => k - (intOf i).toNat)
          case atStart => exact ⟨0, Nat.zero_le _, rfl, Lib.hid (fun j hj => by omega), Lib.hid (Below.refl _ _)⟩
          case round =>
            obtain ⟨w6, hw6⟩ : ∃ w6, w6 = wr := ⟨_, rfl⟩
            subst hw6
            obtain ⟨j, hj, rfl, HCN, HB6⟩ := hrel
            by_cases hlj : j < k
            · have hlj2 : (j : Int) < (k : Int) := by omega
              have HBW := Lib.hid (HB.out.trans (HB6.out.mono HB.out.size))
              obtain ⟨b, p, rfl, hp, hbb, g0, g1, g2, g3⟩ := (HR.out.below HBW.out).at (k := j) (by rw [HL.out]; exact hlj)
              obtain ⟨r0, -, -, hlD⟩ := (HD.out.past HB6.out).get (i := j) hlj
              obtain ⟨x, hx⟩ : ∃ x, x = k * p.weight := ⟨_, rfl⟩
              have hxi : (k : Int) * (p.weight : Int) = (x : Int) := by rw [hx]; exact (Int.natCast_mul _ _).symm
              have hxm : x < 9223372036854775808 := by
                have : k * p.weight ≤ 1000000 * 4294967295 := Nat.mul_le_mul hm2 (by omega)
                omega
              have v2 : IntKind.u64.wrap (p.weight : Int) = (p.weight : Int) := IntWalk.u64_in _ (by omega)
              have v3 : IntKind.u64.wrap (x : Int) = (x : Int) := IntWalk.u64_in _ (by omega)
              obtain ⟨y, hy⟩ : ∃ y, y = gt D j := ⟨_, rfl⟩
              have rX := ((HD.out.past HB6.out).past (w' := w6.alloc (.cells #[.int .u32 (p.to : Int), .int .u32 (p.weight : Int)] 44)) ((Below.refl _ _).alloc (Nat.le_refl _) _)).get (i := j) hlj |>.1
              rw [← hy] at r0 rX
              have HY := Lib.hid (show y = Al.cnt S j T from by
                rw [hy, HDR.out j hlj, List.take_of_length_le (by rw [HLT.out]; exact Nat.le_refl _)])
              have HRG := Lib.hid (show gt (restsOf l) j = x from by rw [restsOf_gt hp, HL.out, hx])
              obtain ⟨wX, hwX⟩ : ∃ X, X = w6.alloc (.cells #[.int .u32 (p.to : Int), .int .u32 (p.weight : Int)] 44) := ⟨_, rfl⟩
              have hb6X : Below w6.heap.size w6 wX := by rw [hwX]; exact (Below.refl _ _).alloc (Nat.le_refl _) _
              have HBX := Lib.hid (HB6.out.trans (hb6X.mono HB6.out.size))
              have HBXW := Lib.hid (HBW.out.trans (hb6X.mono HBW.out.size))
              subst hwX
              clear hp hx hy hb6X
              by_cases c3 : y = x
              · have d3 : ((y : Int) != (x : Int)) = false := by simp [c3]
                have HCN2 := Lib.hid (show ∀ q, q < j + 1 → Al.cnt S q T = gt (restsOf l) q from fun q hq => by
                  rcases Nat.lt_or_eq_of_le (Nat.le_of_lt_succ hq) with e | e
                  · exact HCN.out q e
                  · rw [e, ← HY.out, HRG.out, c3])
                clear c3
                go_wp2
                go_region
                go_wp2
                go_roundw
                case rel => exact ⟨j + 1, by omega, by go_num, HCN2, Lib.hid (HBX.out.drew)⟩
                case measure => simp [intOf]; omega
              · have d3 : ((y : Int) != (x : Int)) = true := by simp; omega
                have FIN := Lib.hid (mayT_no4 (l := l) (T := T) (k := j) (by rw [HL.out]; exact hlj) (by rw [← HSS.out, ← HY.out, HRG.out]; exact c3))
                clear c3
                go_wp2
                go_region
                go_wp2
                go_ret
                exact ⟨ret_bool FIN.out.symm, HBXW.out.drew⟩
            · have e : j = k := by omega
              subst e
              have FIN := Lib.hid (mayT_yes (l := l) (T := T) HG.out.symm (by rw [HL.out, HLT.out]) (fun q x hq hx => by rw [← HSS.out, HL.out]; exact HOK.out q x (by rw [HLT.out] at hq; exact hq) hx) (fun q hq => by rw [← HSS.out]; exact HCN.out q (by rw [HL.out] at hq; exact hq)))
              have HB7 := Lib.hid (HB.out.trans (HB6.out.mono HB.out.size))
              go_wp2
              go_ret
              exact ⟨ret_bool FIN.out.symm, HB7.out⟩
    · have d0 : ((m : Int) != (n : Int)) = true := by simp; omega
      have FIN := Lib.hid (mayT_no2 (l := l) (T := T) (by omega))
      clear hl hm hr hc hg
      go_enter Try.func20, Try.ntmps20
      go_wp2_with fail
      refine HNB.out.mono ?_
      rintro e w1 ⟨rfl, hb1⟩
      go_wp2
      go_ret
      exact ⟨ret_bool FIN.out.symm, hb1⟩
end Go.Proofs.Ytoflbfkmkalgcaa
