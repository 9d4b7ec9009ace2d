/- A table that is read where it may stand: Get. -/
import Derived.Test.YtimladmphcipfaaAlU
import Derived.Test.YtimladmphcipfaaAlQ
import Derived.Test.YtimladmphcipfaaGet
namespace Go.Proofs.Ytimladmphcipfaa
open Go.RowKit Me Va Al

theorem num_good {n : Nat} (r : List UInt8) (h : n < 18446744073709551616) (most : Nat) (hm : n ≤ most) : numOf (enc n ++ r) 0 most = (n, r, 0) := read_num r h most hm
theorem num_much {n : Nat} (r : List UInt8) (h : n < 18446744073709551616) (most : Nat) (hm : most < n) : numOf (enc n ++ r) 0 most = (0, [], 9) := by
  unfold numOf
  rw [if_neg (by decide), pars_put h, if_neg (by simp), if_pos hm]
theorem num_bad9 (most : Nat) : numOf [] 9 most = (0, [], 9) := by
  unfold numOf
  rw [if_pos (by decide)]
theorem encT_drop {T : List CelD} {k : Nat} {c : CelD} (h : T[k]? = some c) : encT (T.drop k) = enc c.cut ++ (enc c.oth ++ encT (T.drop (k + 1))) := by
  have hk := (List.getElem?_eq_some_iff.1 h).1
  have e : T.drop k = c :: T.drop (k + 1) := by
    rw [List.drop_eq_getElem_cons hk]
    congr 1
    have := List.getElem?_eq_getElem hk
    rw [h] at this
    injection this with this
    exact this.symm
  rw [e]
  unfold encT
  rw [List.flatMap_cons, List.append_assoc]
/-- Cells are answered, or none; the reader behind them. -/
def TgPost (w : World) (g m s : Nat) (T : List CelD) (e : Ending) (w' : World) : Prop :=
  (T.all (okCel s m) = true → ∃ A c, e = .returned (.slice A m c) ∧ w'.ownsRow w.heap.size 40 2 (.slice A m c) m (cCells T) ∧ Rdr w' g [] 0 ∧ w.grownBy w' (some g)) ∧
  (T.all (okCel s m) = false → ∃ c, e = .returned (.slice none 0 c) ∧ Rdr w' g [] 9 ∧ w.grownBy w' (some g))
theorem all_no {T : List CelD} {s m k : Nat} {c : CelD} (hc : T[k]? = some c) (h : okCel s m c = false) : T.all (okCel s m) = false := by
  rw [List.all_eq_false]
  exact ⟨c, List.mem_of_getElem? hc, by rw [h]; simp⟩
theorem tg_no {w w' : World} {g m s : Nat} {T : List CelD} (h : T.all (okCel s m) = false) (hr : Rdr w' g [] 9) (hg : w.grownBy w' (some g)) : TgPost w g m s T (.returned (.slice none 0 0)) w' :=
  ⟨(fun e => by rw [h] at e; cases e), fun _ => ⟨0, rfl, hr, hg⟩⟩
theorem tg_yes {w w' : World} {g m s : Nat} {T : List CelD} {A : Option Addr} {c : Nat} (h : T.all (okCel s m) = true) (ho : w'.ownsRow w.heap.size 40 2 (.slice A m c) m (cCells T)) (hr : Rdr w' g [] 0) (hg : w.grownBy w' (some g)) : TgPost w g m s T (.returned (.slice A m c)) w' :=
  ⟨fun _ => ⟨A, c, rfl, ho, hr, hg⟩, fun e => by rw [h] at e; cases e⟩
/-- What stands between the rounds. -/
def TgRel (w : World) (g s m : Nat) (T : List CelD) (k : Nat) (A : Option Addr) (c : Nat) (wr : World) : Prop :=
  wr.ownsRow w.heap.size 40 2 (.slice A k c) k (cCells (T.take k)) ∧ Rdr wr g (encT (T.drop k)) 0 ∧ w.grownBy wr (some g) ∧ (∀ j x, j < k → T[j]? = some x → okCel s m x = true)
set_option maxRecDepth 100000 in
set_option maxHeartbeats 4000000 in
theorem tget_any (g m s : Nat) (T : List CelD) (w : World) (hl : T.length = m) (hm : m ≤ 1000000) (hs : s < 18446744073709551616) (hf : ∀ c ∈ T, c.cut < 18446744073709551616 ∧ c.oth < 4294967296) (h : Rdr w g (encT T) 0) :
    Calls Try.prog 23 #[.pointer (some ⟨g, 0, none⟩), .int .i64 (m : Int), .int .u64 (s : Int)] w (TgPost w g m s T) := by
  obtain ⟨i1, hi1, hy0, hy1, hy2⟩ := info_parts cel_info
  have hgw := h.here
  have HL := Lib.hid hl
  have HF := Lib.hid hf
  have HR := Lib.hid h
  clear hl hf h
  by_cases hm0 : m = 0
  · subst hm0
    have hT : T = [] := List.length_eq_zero_iff.1 HL.out
    have FIN := Lib.hid (tg_yes (w := w) (w' := w) (g := g) (m := 0) (s := s) (T := T) (A := none) (c := 0) (by rw [hT]; rfl) (by rw [hT]; exact World.ownsRow_nil _ _ _ _) (by have := HR.out; rw [hT] at this; exact this) (World.grownBy.refl _ _))
    clear hT
    go_enter Try.func23, Try.ntmps23
    go_wp2
    go_ret
    exact FIN.out
  · obtain ⟨la, hla⟩ : ∃ la, m = la + 1 := ⟨m - 1, by omega⟩
    have hla2 : (m : Int) - 1 = (la : Int) := by omega
    have hm1 : ¬ (m : Int) < 1 := by omega
    have hm2 : ¬ m < 1 := by omega
    have v1 : IntKind.u64.wrap (m : Int) = (m : Int) := IntWalk.u64_in _ (by omega)
    have v2 : IntKind.u64.wrap (la : Int) = (la : Int) := IntWalk.u64_in _ (by omega)
    have hmin : min (la : Int) 4294967295 = (la : Int) := by omega
    have hmin2 : ¬ (4294967295 : Int) < (la : Int) := by omega
    have hmin3 : (la : Int) ≤ 4294967295 := by omega
    have HLA := Lib.hid hla
    have H0 := Lib.hid (show TgRel w g s m T 0 none 0 w from ⟨World.ownsRow_nil _ _ _ _, HR.out, World.grownBy.refl _ _, fun j x hj => by omega⟩)
    clear hla hm0
    go_enter Try.func23, Try.ntmps23
    go_wp2
    go_loopw [8, 21] (fun v i wr => ∃ (k : Nat) (A : Option Addr) (c : Nat), k ≤ m ∧ i = .int .i64 k ∧ v = .slice A k c ∧ Hid (TgRel w g s m T k A c wr)) (fun _ i _ => m - (intOf i).toNat)
    case atStart => exact ⟨0, none, 0, Nat.zero_le _, rfl, rfl, H0⟩
    case round =>
      clear H0
      obtain ⟨k, A, c, hk, rfl, rfl, HP⟩ := hrel
      by_cases hlt : k < m
      · have hlt2 : (k : Int) < (m : Int) := by omega
        obtain ⟨ho, hrd, hgr, hok⟩ := HP.out
        have hx := List.getElem?_eq_getElem (l := T) (i := k) (by rw [HL.out]; exact hlt)
        obtain ⟨x, hxx⟩ : ∃ x, x = T[k]'(by rw [HL.out]; exact hlt) := ⟨_, rfl⟩
        rw [← hxx] at hx
        obtain ⟨hf1, hf2⟩ := HF.out x (List.mem_of_getElem? hx)
        have HX := Lib.hid hx
        have HED := Lib.hid (encT_drop hx)
        rw [HED.out] at hrd
        have HO := Lib.hid ho
        have HRD := Lib.hid hrd
        have HGR := Lib.hid hgr
        have HOK := Lib.hid hok
        obtain ⟨rest, hrest⟩ : ∃ rest, rest = encT (T.drop (k + 1)) := ⟨_, rfl⟩
        rw [← hrest] at HRD
        have HRS := Lib.hid hrest
        have hws := hgr.size
        clear ho hrd hgr hok hx hxx HP HED hrest
        by_cases c1 : x.cut ≤ s
        · by_cases c2 : x.oth ≤ la
          · -- a cell that may be
            have HOK2 := Lib.hid (show okCel s m x = true from by unfold okCel; have := HLA.out; simp; omega)
            have v3 : IntKind.u32.wrap (x.oth : Int) = (x.oth : Int) := IntWalk.u32_in _ (by omega)
            go_wp2_with fail
            refine (num_any g _ 0 s wr HRD.out).mono ?_
            rw [num_good _ hf1 _ c1]
            rintro e w3 ⟨rfl, hr3, hg3⟩
            have HR3 := Lib.hid hr3
            have HG3 := Lib.hid (HGR.out.trans hg3)
            have HO3 := Lib.hid (own_past HO.out hg3 hgw)
            clear hr3 hg3 HO HRD HGR
            go_wp2_with fail
            refine (num_any g _ 0 la w3 HR3.out).mono ?_
            rw [num_good _ (by omega) _ c2]
            rintro e w4 ⟨rfl, hr4, hg4⟩
            obtain ⟨w5, hw5⟩ : ∃ w5, w5 = w4.alloc (.cells #[.int .u64 (x.cut : Int), .int .u32 (x.oth : Int)] 40) := ⟨_, rfl⟩
            obtain ⟨H, hH⟩ : ∃ H, H = w4.heap.size := ⟨_, rfl⟩
            have HR5 := Lib.hid (show Rdr w5 g rest 0 by rw [hw5]; exact Rdr.alloc hr4 _)
            have HG5 := Lib.hid (show w.grownBy w5 (some g) by rw [hw5]; exact (HG3.out.trans hg4).trans (grown_alloc _ _ _))
            have HO5 := Lib.hid (show w5.ownsRow w.heap.size 40 2 (.slice A k c) k (cCells (T.take k)) by rw [hw5]; exact (own_past HO3.out hg4 hgw).alloc _)
            have HBK := Lib.hid (show Blk w5 H [.int .u64 (x.cut : Int), .int .u32 (x.oth : Int)] by rw [hw5, hH]; exact Blk.new w4 [.int .u64 (x.cut : Int), .int .u32 (x.oth : Int)] _)
            have HW5 := Lib.hid hw5
            have HHE := Lib.hid hH
            clear hr4 hg4 hw5 hH HR3 HG3 HO3
            have q0 := HBK.out.cell (i := 0) rfl
            have q1 := HBK.out.cell (i := 1) rfl
            go_upto_region 8 with fail
            rw [← HW5.out, ← HHE.out]
            go_wp2_with fail
            refine (err_any g rest 0 w5 HR5.out).mono ?_
            rintro e w' ⟨rfl, rfl⟩
            obtain ⟨w6, hw6⟩ : ∃ w6, w6 = w5.alloc (.cells #[.int .u64 (x.cut : Int), .int .u32 (x.oth : Int)] 40) := ⟨_, rfl⟩
            have HO6 := Lib.hid (show w6.ownsRow w.heap.size 40 2 (.slice A k c) k (cCells (T.take k)) by rw [hw6]; exact HO5.out.alloc _)
            have HC6 := Lib.hid (show ∀ (j : Nat) (u : Value), ([.int .u64 (x.cut : Int), .int .u32 (x.oth : Int)] : List Value)[j]? = some u → w6.cell? ((⟨w5.heap.size, 0, none⟩ : Addr).add j) = some u from fun j u hj => by rw [hw6]; exact two_cel j u hj)
            have HCE := Lib.hid (show ∀ u ∈ ([.int .u64 (x.cut : Int), .int .u32 (x.oth : Int)] : List Value), u.oneCell' = true from fun u hu => by simp at hu; rcases hu with rfl | rfl <;> rfl)
            have HMX := Lib.hid (show k + 1 ≤ maxLen ∧ (k + 1) * 16 ≤ 140737488355328 by unfold maxLen; omega)
            have HR6 := Lib.hid (show Rdr w6 g rest 0 by rw [hw6]; exact HR5.out.alloc _)
            have HG6 := Lib.hid (show w.grownBy w6 (some g) by rw [hw6]; exact HG5.out.trans (grown_alloc _ _ _))
            have hbs : w.heap.size ≤ w6.heap.size := HG6.out.size
            have HW6 := Lib.hid hw6
            clear hw6
            go_wp2_with (at_builtin
                         rw [← HW6.out]
                         go_loud (refine wpList_append_own_at _ rfl (.tmp 34) (.tmp 36) 24 rfl w.heap.size 40 i1 _ 2 16 Try.underlying24 hi1 hy0 hy1 hy2 rfl (by decide) (.slice A k c) k _ rfl HO6.out ⟨w5.heap.size, 0, none⟩ 1 1 [.int .u64 (x.cut : Int), .int .u32 (x.oth : Int)] rfl rfl HC6.out HCE.out HMX.out.1 HMX.out.2 hbs ?_)
                         intro v7 w7 ho7 hg7 hnn7 hn7
                         refine Classical.byContradiction fun hcontra => ?_)
            obtain ⟨A7, d7, hv7, -⟩ := own_slice' ho7
            subst hv7
            have HREL := Lib.hid (show TgRel w g s m T (k + 1) A7 d7 w7 from by
              refine ⟨?_, ?_, HG6.out.andThen hg7 (fun j hj => .inl (HO6.out.lt j hj).1), fun j y hj hy => ?_⟩
              · rw [List.take_add_one, HX.out, cCells_append]
                exact ho7
              · rw [← HRS.out]
                exact rdr_app HR6.out HO6.out hg7 hgw
              · rcases Nat.lt_or_eq_of_le (Nat.le_of_lt_succ hj) with e | e
                · exact HOK.out j y e hy
                · subst e
                  rw [HX.out] at hy
                  injection hy with hy
                  subst hy
                  exact HOK2.out)
            clear ho7 hg7 hnn7 hn7 HO6 HC6 HCE HW6 HR6 HG6 HR5 HG5 HO5 HBK q0 q1
            apply hcontra
            clear hcontra
            go_wp2
            go_roundw
            case rel => exact ⟨k + 1, A7, d7, by omega, by go_num, rfl, HREL⟩
            case measure => simp [intOf]; omega
          · have HNO := Lib.hid (all_no (s := s) (m := m) HX.out (by unfold okCel; have := HLA.out; simp; intro _; omega))
            go_wp2_with fail
            refine (num_any g _ 0 s wr HRD.out).mono ?_
            rw [num_good _ hf1 _ c1]
            rintro e w3 ⟨rfl, hr3, hg3⟩
            have HR3 := Lib.hid hr3
            have HG3 := Lib.hid (HGR.out.trans hg3)
            clear hr3 hg3
            go_wp2_with fail
            refine (num_any g _ 0 la w3 HR3.out).mono ?_
            rw [num_much _ (by omega) _ (by omega)]
            rintro e w4 ⟨rfl, hr4, hg4⟩
            have HR5 := Lib.hid (show Rdr (w4.alloc (.cells #[.int .u64 (x.cut : Int), .int .u32 0] 40)) g [] 9 from Rdr.alloc hr4 _)
            have HG5 := Lib.hid (show w.grownBy (w4.alloc (.cells #[.int .u64 (x.cut : Int), .int .u32 0] 40)) (some g) from (HG3.out.trans hg4).trans (grown_alloc _ _ _))
            clear hr4 hg4
            go_wp2_with fail
            refine (err_any g [] 9 _ HR5.out).mono ?_
            rintro e w' ⟨rfl, rfl⟩
            go_wp2
            go_ret
            exact tg_no HNO.out HR5.out HG5.out
        · have HNO := Lib.hid (all_no (s := s) (m := m) HX.out (by unfold okCel; simp; intro h; omega))
          go_wp2_with fail
          refine (num_any g _ 0 s wr HRD.out).mono ?_
          rw [num_much _ hf1 _ (by omega)]
          rintro e w3 ⟨rfl, hr3, hg3⟩
          have HR3 := Lib.hid hr3
          have HG3 := Lib.hid (HGR.out.trans hg3)
          clear hr3 hg3
          go_wp2_with fail
          refine (num_any g _ 9 la w3 HR3.out).mono ?_
          rw [num_bad9]
          rintro e w4 ⟨rfl, hr4, hg4⟩
          have HR5 := Lib.hid (show Rdr (w4.alloc (.cells #[.int .u64 0, .int .u32 0] 40)) g [] 9 from Rdr.alloc hr4 _)
          have HG5 := Lib.hid (show w.grownBy (w4.alloc (.cells #[.int .u64 0, .int .u32 0] 40)) (some g) from (HG3.out.trans hg4).trans (grown_alloc _ _ _))
          clear hr4 hg4
          go_wp2_with fail
          refine (err_any g [] 9 _ HR5.out).mono ?_
          rintro e w' ⟨rfl, rfl⟩
          go_wp2
          go_ret
          exact tg_no HNO.out HR5.out HG5.out
      · have e : k = m := by omega
        subst e
        have FIN := Lib.hid (show TgPost w g k s T (.returned (.slice A k c)) wr from by
          obtain ⟨ho, hrd, hgr, hok⟩ := HP.out
          rw [List.take_of_length_le (by rw [HL.out]; exact Nat.le_refl _)] at ho
          rw [List.drop_of_length_le (by rw [HL.out]; exact Nat.le_refl _)] at hrd
          refine tg_yes (List.all_eq_true.2 fun x hx => ?_) ho hrd hgr
          obtain ⟨j, hj, e⟩ := List.getElem_of_mem hx
          exact hok j x (by rw [HL.out] at hj; exact hj) (by rw [← e]; exact List.getElem?_eq_getElem hj))
        go_wp2
        go_ret
        exact FIN.out
end Go.Proofs.Ytimladmphcipfaa
