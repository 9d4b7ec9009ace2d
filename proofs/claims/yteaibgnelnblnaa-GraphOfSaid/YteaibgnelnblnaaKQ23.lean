/- Texts put together, for a law: MsM, GqS, GqE, GqF, GqT, GqV, NuP, PqP. -/
import Derived.Deep.QuietTactic
import Derived.BigQuiet
import Derived.Test.YteaibgnelnblnaaKQ22
import Derived.Test.YteaibgnelnblnaaKQ19
import Derived.Test.YteaibgnelnblnaaKQ22
import Derived.Test.YteaibgnelnblnaaKQ7
section
namespace Go.Proofs.Yteaibgnelnblnaa
open Go.RowKit Me Tx Ed Mg Va

theorem below_drewN (w : World) (q : Nat) : Below w.heap.size w (w.drewN q) := ⟨rfl, rfl, rfl, Nat.le_refl _, fun _ _ => rfl⟩
/-- What is known of each slot where a row is asked. -/
def m23 (b : Addr) (P : Option Addr) (m c1 i i1 n1 c2 s s1 : Nat) (q0 : Bool) : Gw.Fact := fun t v _ =>
  match t with
  | 7 | 89 | 97 => v = .slice (some b) m c1
  | 10 | 90 | 98 | 106 => v = .int .i64 (i : Int)
  | 91 | 99 => v = .pointer (some (b.add (i * 2)))
  | 92 | 100 => v = .pointer (some ⟨(b.add (i * 2)).block, (b.add (i * 2)).off + 1, none⟩)
  | 93 | 101 => v = .slice P n1 c2
  | 94 => v = .bool true
  | 95 | 96 | 103 | 104 | 105 | 121 | 122 => v = .bool false
  | 102 => v = .int .i64 (n1 : Int)
  | 107 | 108 => v = .bool q0
  | 109 | 114 => q0 = true → v = .slice (some b) m c1
  | 110 | 115 => q0 = true → v = .int .i64 (i : Int)
  | 111 | 112 => q0 = true → v = .pointer (some (b.add (i * 2)))
  | 113 => q0 = true → v = .int .u32 (s : Int)
  | 116 => q0 = true → v = .int .i64 (i1 : Int)
  | 117 | 118 => q0 = true → v = .pointer (some (b.add (i1 * 2)))
  | 119 => q0 = true → v = .int .u32 (s1 : Int)
  | 120 => q0 = true → v = .bool false
  | _ => True
end Go.Proofs.Yteaibgnelnblnaa
end
section
namespace Go.Proofs.Yteaibgnelnblnaa
open Go.RowKit Me Tx Ed Mg Va

variable {lo : Nat} {A : Option Addr} {n c : Nat} {l : List RwD} {w : World}
theorem KsPost.from_ {w w1 w' : World} {q : List RowR × Int} {e : Ending} (h : KsPost w1 q e w') (hb : Below w.heap.size w w1) : KsPost w q e w' := by
  obtain ⟨A, n, c, h1, h2, h3, h4, h5, h6⟩ := h
  obtain ⟨vs, g1, g2, g3⟩ := h5.ex
  exact ⟨A, n, c, h1, h2, h3, h4, ⟨⟨vs, g1, g2, fun i p r hp hr => { g3 i p r hp hr with low := fun a e => Nat.le_trans hb.size ((g3 i p r hp hr).low a e) }⟩, fun h0 a e => Nat.le_trans hb.size (h5.low h0 a e)⟩, hb.trans (h6.mono hb.size)⟩
set_option maxRecDepth 100000 in
set_option maxHeartbeats 2000000 in
theorem rofG_any (L : Option Addr) (n c : Nat) (l : List EdD) (w : World) (hl : l.length = n) (hn : n ≤ 1000) (hc : Cs w w.heap.size L (edCells l)) (hf : ∀ x ∈ l, FitE x) :
    Calls Try.prog 10 #[.slice L n c] w (KsPost w (ofG l)) := by
  have HL := Lib.hid hl
  have HC := Lib.hid hc
  have HF := Lib.hid hf
  clear hl hc hf
  go_enter Try.func10, Try.ntmps10
  go_wp2
  go_loopw [7] (fun kv wr => ∃ k : Nat, kv = .int .i64 (k : Int) ∧ k ≤ n ∧ Hid (∀ j x, j < k → l[j]? = some x → 0 < x.wgt) ∧ Hid (Below w.heap.size w wr)) (fun kv _ => n - (intOf kv).toNat)
  case atStart => exact ⟨0, rfl, Nat.zero_le _, Lib.hid (fun j x hj => by omega), Lib.hid (Below.refl _ _)⟩
  case round =>
    obtain ⟨k, rfl, hk, HP, HB⟩ := hrel
    by_cases hlt : k < n
    · obtain ⟨x, hx⟩ : ∃ x, l[k]? = some x := ⟨_, List.getElem?_eq_getElem (by rw [HL.out]; exact hlt)⟩
      obtain ⟨a, rfl, hab, hat⟩ := eds_at HC.out hx
      obtain ⟨x0, x1, x2⟩ := hat.below HB.out (by rw [block_add]; exact hab)
      have HX := Lib.hid hx
      have hlt2 : (k : Int) < (n : Int) := by omega
      clear hx hat hab
      by_cases hz : x.wgt = 0
      · have d0 : ((x.wgt : Int) == 0) = true := by simp [hz]
        have HQ := Lib.hid (show ofG l = ([], 9) from by
          rcases ofG_cases l with ⟨e, -⟩ | ⟨hp, -⟩
          · exact e
          · have := hp x (List.mem_of_getElem? HX.out); omega)
        have FIN := Lib.hid (show Below w.heap.size w (wr.alloc (.cells #[] 51)) from HB.out.alloc HB.out.size _)
        clear hz x1
        go_wp2
        go_ret2
        exact ks_err FIN.out _ HQ.out
      · have d0 : ((x.wgt : Int) == 0) = false := by rw [beq_eq_false_iff_ne]; omega
        have HP2 := Lib.hid (show ∀ j y, j < k + 1 → l[j]? = some y → 0 < y.wgt from fun j y hj hy => by
          by_cases hjk : j < k
          · exact HP.out j y hjk hy
          · have e : j = k := by omega
            subst e
            rw [HX.out] at hy
            injection hy with hy
            subst hy
            omega)
        clear hz x1
        go_wp2
        go_roundw
        case rel => exact ⟨k + 1, by go_num, by omega, HP2, HB⟩
        case measure => simp [intOf]; omega
    · have e : k = n := by omega
      subst e
      have HQ := Lib.hid (show ofG l = rowsG [] none (sortE l) from by
        unfold ofG
        rw [any_zero.2 fun x hx => by
          obtain ⟨i, hi, e⟩ := List.getElem_of_mem hx
          exact HP.out i x (by rw [← HL.out]; exact hi) (by rw [List.getElem?_eq_getElem hi, e])]
        rfl)
      have HK := Lib.hid (keysG_edges (sortE l) [] none (sort_fit HF.out))
      clear HP
      go_wp2_with fail
      refine (rsorted_any L k c l HL.out (by omega) wr ((HC.out.below HB.out).more HB.out.size)).mono ?_
      rintro e w10 ⟨A10, c10, rfl, ho10, hb10⟩
      have HO10 := Lib.hid ho10
      have HB10 := Lib.hid (HB.out.trans (hb10.mono HB.out.size))
      clear ho10 hb10
      go_wp2_with fail
      refine (rkeys_any A10 k c10 (sortE l) (by rw [sort_length, HL.out]) (by omega) w10 (Cs.of_own HO10.out) (sort_fit HF.out)).mono ?_
      rintro e w11 ⟨A11, c11, es, rfl, hl11, hc11, hm11, hes, hr11, hb11⟩
      have HB11 := Lib.hid (HB10.out.trans (hb11.mono HB10.out.size))
      have HM11 := Lib.hid (mkeys_any A11 k c11 es w11 hl11 hn hr11)
      rw [hes, HK.out, ← HQ.out] at HM11
      clear hr11 hb11 hes HO10
      go_wp2_with fail
      refine HM11.out.mono ?_
      intro e w12 h12
      have HP12 := Lib.hid (h12.from_ HB11.out)
      obtain ⟨A12, n12, c12, rfl, -⟩ := h12
      go_wp2
      go_ret2
      exact HP12.out
end Go.Proofs.Yteaibgnelnblnaa
end
section
namespace Go.Proofs.Yteaibgnelnblnaa
open Go.RowKit Me Tx Ed Mg Va

/-- Rows that are being put together, in a box. -/
abbrev Col (H : Nat) (pre : List RwD) (w : World) (A : Option Addr) (n c : Nat) (vs : List RwV) : Prop := ColX (fun _ => False) (H + 1) (H + 1) H pre w A n c vs
def AddPost (w : World) (H : Nat) (pre : List RwD) (r : RwD) (e : Ending) (w' : World) : Prop :=
  e = .returned (.int .i64 (errN (lastN pre) r)) ∧ (errN (lastN pre) r = 0 → ∃ A n c vs, Col H (pre ++ [r]) w' A n c vs) ∧ Out (fun k => H ≤ k) w w'
theorem Col.past {H : Nat} {pre : List RwD} {w w' : World} {A : Option Addr} {n c : Nat} {vs : List RwV} (h : Col H pre w A n c vs) (hb : Below w.heap.size w w') : Col H pre w' A n c vs :=
  h.stay (.of_below hb) (fun _ h => h.elim) (fun h => h)
theorem Col.at {H : Nat} {pre : List RwD} {w : World} {A : Option Addr} {n c : Nat} {vs : List RwV} (h : Col H pre w A n c vs) (hlo : H + 1 ≤ w.heap.size) : RowsAt w (H + 1) w.heap.size A pre :=
  rows_own h.own (Nat.le_refl _) h.len fun i p r hp hr => (h.rows i p r hp hr).1
end Go.Proofs.Yteaibgnelnblnaa
end
section
namespace Go.Proofs.Yteaibgnelnblnaa
open Go.RowKit Me Tx Ed Mg Va

/-- A graph of one's own, or an error. -/
def GfPost (w : World) (q : List RwD × Int) (e : Ending) (w' : World) : Prop :=
  ∃ g A n c, e = .returned (.tuple #[.pointer g, .int .i64 q.2]) ∧ (q.2 ≠ 0 → g = none) ∧ GrAt w' w.heap.size w'.heap.size g A n c q.1 ∧ Below w.heap.size w w'
def newQ (l : List RwD) : List RwD × Int := if newG none l = 0 then (l, 0) else ([], newG none l)
theorem gf_bad {w w' : World} {q : List RwD × Int} {z : Int} (hq : q = ([], z)) (hb : Below w.heap.size w w') : GfPost w q (.returned (.tuple #[.pointer none, .int .i64 z])) w' := by
  subst hq
  exact ⟨none, none, 0, 0, rfl, fun _ => rfl, GrAt.none _ _, hb⟩
theorem edges_few {l : List RwD} (h : GOk l) : l.length ≤ (edgesG l).length := by
  induction l with
  | nil => simp
  | cons r l ih =>
    have h1 := ih ⟨(List.pairwise_cons.1 h.srcs).2, fun s hs => h.full s (List.mem_cons_of_mem _ hs)⟩
    have h2 := (h.full r List.mem_cons_self).1
    have h3 : edgesG (r :: l) = edsR r ++ edgesG l := rfl
    rw [h3, List.length_append, List.length_cons, edsR_length]
    omega
theorem Col.graph {H : Nat} {l : List RwD} {w w' : World} {A : Option Addr} {n c : Nat} {vs : List RwV} (h : Col H l w' A n c vs) (hH : H = w.heap.size) (hok : GOk l) (hfew : (edgesG l).length ≤ 1000000) : GrAt w' w.heap.size w'.heap.size (some ⟨H, 0, none⟩) A n c l := by
  have hlt := h.box.lt
  have hr := h.at hlt
  obtain ⟨vs', g1, g2, g3⟩ := hr.ex
  refine ⟨.inr ⟨H, rfl, by omega, hlt, h.box⟩, ⟨⟨vs', g1, g2, fun i p r hp hr' => { g3 i p r hp hr' with low := fun a e => by have := (g3 i p r hp hr').low a e; omega }⟩, fun h0 a e => by have := hr.low h0 a e; omega⟩, h.num, own_bounds h.own, hok, ⟨?_, hfew⟩, Nat.le_refl _⟩
  have := edges_few hok
  have := h.num
  omega
end Go.Proofs.Yteaibgnelnblnaa
end
section
namespace Go.Proofs.Yteaibgnelnblnaa
open Go.RowKit Me Tx Ed Mg Va

theorem nCells_length (l : List Nat) : (nCells l).length = l.length := by simp [nCells]
theorem nCells_append (l m : List Nat) : nCells (l ++ m) = nCells l ++ nCells m := by simp [nCells]
theorem nCells_one {l : List Nat} : ∀ v ∈ nCells l, v.oneCell' = true := by
  intro v hv
  unfold nCells at hv
  obtain ⟨a, -, rfl⟩ := List.mem_map.1 hv
  rfl
theorem num_info : (Try.prog.info? 23).map (fun i => (i.zero, i.size, i.bytes)) = some (some (.int .u32 0), 1, 4) := by kernel_rfl
/-- Numbers, in memory of their own. -/
def NewN (w : World) (l : List Nat) (e : Ending) (w' : World) : Prop :=
  ∃ A n c, e = .returned (.slice A n c) ∧ l.length = n ∧ w'.ownsRow w.heap.size 23 1 (.slice A n c) n (nCells l) ∧ Below w.heap.size w w'
set_option maxRecDepth 100000 in
set_option maxHeartbeats 1000000 in
theorem rsame_num (A A' : Option Addr) (n c c' : Nat) (l : List Nat) (w : World) (hl : l.length = n) (hn : n ≤ 1000000000) (h : Cs w w.heap.size A (nCells l)) (h' : Cs w w.heap.size A' (nCells l)) :
    Calls Try.prog 22 #[.slice A n c, .slice A' n c'] w fun e w' => e = .returned (.bool true) ∧ Below w.heap.size w w' := by
  have HL := Lib.hid hl
  have HA := Lib.hid h
  have HA' := Lib.hid h'
  clear hl h h'
  go_enter Try.func22, Try.ntmps22
  go_wp2
  go_loopw [13] (fun i wr => ∃ k : Nat, k ≤ n ∧ i = .int .i64 k ∧ Hid (Below w.heap.size w wr)) (fun i _ => n - (intOf i).toNat)
  case atStart => exact ⟨0, Nat.zero_le _, rfl, Lib.hid (Below.refl _ _)⟩
  case round =>
    obtain ⟨k, hk, rfl, HB⟩ := hrel
    by_cases hlt : k < n
    · have hlt' : k < l.length := by rw [HL.out]; exact hlt
      obtain ⟨a, x, rfl, hx, -, c0⟩ := cs_at (HA.out.below HB.out) hlt'
      obtain ⟨a', x', rfl, hx', -, c1⟩ := cs_at (HA'.out.below HB.out) hlt'
      rw [hx] at hx'
      injection hx' with hx'
      subst hx'
      clear hx hlt'
      have d0 : ((x : Int) != (x : Int)) = false := by simp
      have hlt2 : (k : Int) < (n : Int) := by omega
      go_wp2_with fail
      go_quiet (fail)
      have HB3 := Lib.hid (HB.out.trans ((below_drewN _ nq).mono HB.out.size))
      clear c0 c1
      go_wp2
      go_roundw
      case rel => exact ⟨k + 1, by omega, by go_num, HB3⟩
      case measure => simp [intOf]; omega
    · go_wp2
      go_ret
      exact ⟨rfl, HB.out⟩
theorem withV_len (l : List Nat) (v : Nat) : (withV l v).length ≤ l.length + 1 := by
  unfold withV
  rw [List.length_append, List.length_cons]
  have : (l.filter fun x => decide (x < v)).length + (l.filter fun x => decide (v < x)).length ≤ l.length := by
    induction l with
    | nil => simp
    | cons a l ih =>
      rw [List.filter_cons, List.filter_cons, List.length_cons]
      by_cases h1 : a < v
      · have h2 : ¬ v < a := by omega
        simp [h1, h2]
        omega
      · by_cases h2 : v < a
        · simp [h1, h2]
          omega
        · simp [h1, h2]
          omega
  omega
theorem filter_step {l : List Nat} {k x : Nat} {p : Nat → Bool} (h : l[k]? = some x) : (l.take (k + 1)).filter p = (l.take k).filter p ++ if p x = true then [x] else [] := by
  rw [List.take_add_one, h, List.filter_append]
  congr 1
  show List.filter p [x] = _
  rw [List.filter_cons]
  split <;> simp
set_option maxRecDepth 100000 in
set_option maxHeartbeats 2000000 in
theorem rwith_any (A : Option Addr) (n c v : Nat) (l : List Nat) (w : World) (hl : l.length = n) (hn : n ≤ 1000000) (h : Cs w w.heap.size A (nCells l)) :
    Calls Try.prog 43 #[.slice A n c, .int .u32 (v : Int)] w (NewN w (withV l v)) := by
  obtain ⟨i0, hi0, hz0, hz1, hz2⟩ := info_parts num_info
  have HL := Lib.hid hl
  have HA := Lib.hid h
  have HO0 := Lib.hid (show (w.alloc (.cells #[] 23)).ownsRow w.heap.size 23 1 (.slice (some ⟨w.heap.size, 0, none⟩) 0 0) 0 [] from ⟨rfl, .inr ⟨w.heap.size, 0, #[], rfl, Nat.le_refl _, heap_alloc_new w _, Nat.le_refl _, by decide, rfl, rfl⟩⟩)
  have HB0 := Lib.hid (show Below w.heap.size w (w.alloc (.cells #[] 23)) from (Below.refl _ _).alloc (Nat.le_refl _) _)
  -- one more number behind others
  have HAP := Lib.hid (show ∀ (W : World) (x : Nat), Below w.heap.size w W → ∀ i u, (nCells [x])[i]? = some u → (W.alloc (.cells #[.int .u32 (x : Int)] 23)).cell? ((⟨W.heap.size, 0, none⟩ : Addr).add i) = some u from fun W x _ => cells_new W (nCells [x]) 23 (by simp [nCells]))
  clear hl h
  go_enter Try.func43, Try.ntmps43
  go_wp2
  go_loopw [5, 11] (fun y kv wr => ∃ (k m : Nat) (A1 : Option Addr) (c1 : Nat), y = .slice A1 m c1 ∧ kv = .int .i64 (k : Int) ∧ k ≤ n ∧ m ≤ k ∧ Hid (wr.ownsRow w.heap.size 23 1 (.slice A1 m c1) m (nCells ((l.take k).filter fun x => decide (x < v)))) ∧ Hid (Below w.heap.size w wr)) (fun _ kv _ => n - (intOf kv).toNat)
  case atStart => exact ⟨0, 0, some ⟨w.heap.size, 0, none⟩, 0, rfl, rfl, Nat.zero_le _, Nat.zero_le _, Lib.hid HO0.out, HB0⟩
  case round =>
    obtain ⟨k, m, A1, c1, rfl, rfl, hk, hm, HO, HB⟩ := hrel
    by_cases hlt : k < n
    · obtain ⟨a, x, rfl, hx, -, c0⟩ := cs_at (HA.out.below HB.out) (k := k) (by rw [HL.out]; exact hlt)
      have HX := Lib.hid hx
      have hlt2 : (k : Int) < (n : Int) := by omega
      clear hx
      by_cases hv : x < v
      · have d0 : (x : Int) < (v : Int) := by omega
        have HST := Lib.hid (show nCells ((l.take k).filter fun x => decide (x < v)) ++ nCells [x] = nCells ((l.take (k + 1)).filter fun x => decide (x < v)) from by
          rw [filter_step HX.out, if_pos (decide_eq_true hv), nCells_append])
        have HC4 := Lib.hid (HAP.out wr x HB.out)
        have HO4 := Lib.hid (own_below' HO.out ((Below.refl _ _).alloc (Nat.le_refl _) (.cells #[.int .u32 (x : Int)] 23)))
        have HMX := Lib.hid (show m + 1 ≤ maxLen ∧ (m + 1) * 4 ≤ 140737488355328 by unfold maxLen; omega)
        have hws := HB.out.size
        clear hv
        go_wp2_with (at_builtin
                     go_loud (refine wpList_append_own_at _ rfl (.tmp 20) (.tmp 25) 45 rfl w.heap.size 23 i0 _ 1 4 Try.underlying45 hi0 hz0 hz1 hz2 rfl (by decide) (.slice A1 m c1) m _ rfl HO4.out ⟨wr.heap.size, 0, none⟩ 1 1 (nCells [x]) rfl rfl HC4.out nCells_one HMX.out.1 HMX.out.2 (by rw [World.size_alloc]; omega) ?_)
                     intro v7 w7 ho7 hg7 hnn7 hn7
                     refine Classical.byContradiction fun hcontra => ?_)
        obtain ⟨A7, c7, hv7, -⟩ := own_slice' ho7
        subst hv7
        rw [HST.out] at ho7
        have HO7 := Lib.hid ho7
        have HB7 := Lib.hid ((HB.out.alloc HB.out.size (.cells #[.int .u32 (x : Int)] 23)).grown hg7 (by rw [World.size_alloc]; omega) (fun i e => (HO4.out.lt i e).1))
        clear ho7 hg7 hnn7 hn7 c0
        apply hcontra
        clear hcontra
        go_wp2
        go_roundw
        case rel => exact ⟨k + 1, m + 1, A7, c7, rfl, by go_num, by omega, by omega, HO7, HB7⟩
        case measure => simp [intOf]; omega
      · have d0 : ¬ (x : Int) < (v : Int) := by omega
        have HO7 := Lib.hid (show wr.ownsRow w.heap.size 23 1 (.slice A1 m c1) m (nCells ((l.take (k + 1)).filter fun x => decide (x < v))) from by
          rw [filter_step HX.out, if_neg (by simp; omega), List.append_nil]
          exact HO.out)
        clear hv HO
        go_wp2
        go_roundw
        case rel => exact ⟨k + 1, m, A1, c1, rfl, by go_num, by omega, by omega, HO7, HB⟩
        case measure => simp [intOf]; omega
    · have e : k = n := by omega
      subst e
      have HO1 := Lib.hid (show wr.ownsRow w.heap.size 23 1 (.slice A1 m c1) m (nCells (l.filter fun x => decide (x < v))) from by
        have := HO.out
        rw [List.take_of_length_le (by rw [HL.out]; exact Nat.le_refl _)] at this
        exact this)
      have HC4 := Lib.hid (HAP.out wr v HB.out)
      have HO4 := Lib.hid (own_below' HO1.out ((Below.refl _ _).alloc (Nat.le_refl _) (.cells #[.int .u32 (v : Int)] 23)))
      have HMX := Lib.hid (show m + 1 ≤ maxLen ∧ (m + 1) * 4 ≤ 140737488355328 by unfold maxLen; omega)
      have hws := HB.out.size
      clear HO HO1
      go_wp2_with (at_builtin
                   go_loud (refine wpList_append_own_at _ rfl (.tmp 28) (.tmp 30) 45 rfl w.heap.size 23 i0 _ 1 4 Try.underlying45 hi0 hz0 hz1 hz2 rfl (by decide) (.slice A1 m c1) m _ rfl HO4.out ⟨wr.heap.size, 0, none⟩ 1 1 (nCells [v]) rfl rfl HC4.out nCells_one HMX.out.1 HMX.out.2 (by rw [World.size_alloc]; omega) ?_)
                   intro v7 w7 ho7 hg7 hnn7 hn7
                   refine Classical.byContradiction fun hcontra => ?_)
      obtain ⟨A7, c7, hv7, -⟩ := own_slice' ho7
      subst hv7
      obtain ⟨F, hF⟩ : ∃ F, F = (l.filter fun x => decide (x < v)) ++ [v] := ⟨_, rfl⟩
      rw [← nCells_append, ← hF] at ho7
      have HFE := Lib.hid hF
      have HO7 := Lib.hid ho7
      have HB7 := Lib.hid ((HB.out.alloc HB.out.size (.cells #[.int .u32 (v : Int)] 23)).grown hg7 (by rw [World.size_alloc]; omega) (fun i e => (HO4.out.lt i e).1))
      clear ho7 hg7 hnn7 hn7 hF
      apply hcontra
      clear hcontra HC4 HO4 HB HMX hws
      go_wp2
      obtain ⟨m1, hm1⟩ : ∃ m1, m1 = m + 1 := ⟨_, rfl⟩
      have HM1 := Lib.hid hm1
      clear hm1
      rw [← HM1.out] at HO7
      go_loopw [5, 34] (fun y jv wr => ∃ (j m2 : Nat) (A1 : Option Addr) (c1 : Nat), y = .slice A1 m2 c1 ∧ jv = .int .i64 (j : Int) ∧ j ≤ k ∧ m2 ≤ k + 1 + j ∧ Hid (wr.ownsRow w.heap.size 23 1 (.slice A1 m2 c1) m2 (nCells (F ++ (l.take j).filter fun x => decide (v < x)))) ∧ Hid (Below w.heap.size w wr)) (fun _ jv _ => k - (intOf jv).toNat)
      case atStart => exact ⟨0, m1, A7, c7, by rw [HM1.out], rfl, Nat.zero_le _, by have := HM1.out; omega, Lib.hid (by rw [List.take_zero, List.filter_nil, List.append_nil]; exact HO7.out), HB7⟩
      case round =>
        clear HO7 HB7 HM1 hm
        obtain ⟨j, m, A1, c1, rfl, rfl, hj, hm, HO, HB⟩ := hrel
        by_cases hlt : j < k
        · obtain ⟨a, x, rfl, hx, -, c0⟩ := cs_at (HA.out.below HB.out) (k := j) (by rw [HL.out]; exact hlt)
          have HX := Lib.hid hx
          have hlt2 : (j : Int) < (k : Int) := by omega
          clear hx
          by_cases hv : v < x
          · have d0 : (v : Int) < (x : Int) := by omega
            have HST := Lib.hid (show nCells (F ++ (l.take j).filter fun x => decide (v < x)) ++ nCells [x] = nCells (F ++ (l.take (j + 1)).filter fun x => decide (v < x)) from by
              rw [filter_step HX.out, if_pos (decide_eq_true hv), ← List.append_assoc, nCells_append (F ++ _)])
            have HC4 := Lib.hid (HAP.out wr x HB.out)
            have HO4 := Lib.hid (own_below' HO.out ((Below.refl _ _).alloc (Nat.le_refl _) (.cells #[.int .u32 (x : Int)] 23)))
            have HMX := Lib.hid (show m + 1 ≤ maxLen ∧ (m + 1) * 4 ≤ 140737488355328 by unfold maxLen; omega)
            have hws := HB.out.size
            clear hv
            go_wp2_with (at_builtin
                         go_loud (refine wpList_append_own_at _ rfl (.tmp 43) (.tmp 48) 45 rfl w.heap.size 23 i0 _ 1 4 Try.underlying45 hi0 hz0 hz1 hz2 rfl (by decide) (.slice A1 m c1) m _ rfl HO4.out ⟨wr.heap.size, 0, none⟩ 1 1 (nCells [x]) rfl rfl HC4.out nCells_one HMX.out.1 HMX.out.2 (by rw [World.size_alloc]; omega) ?_)
                         intro v7 w7 ho7 hg7 hnn7 hn7
                         refine Classical.byContradiction fun hcontra => ?_)
            obtain ⟨A7, c7, hv7, -⟩ := own_slice' ho7
            subst hv7
            rw [HST.out] at ho7
            have HO7 := Lib.hid ho7
            have HB7 := Lib.hid ((HB.out.alloc HB.out.size (.cells #[.int .u32 (x : Int)] 23)).grown hg7 (by rw [World.size_alloc]; omega) (fun i e => (HO4.out.lt i e).1))
            clear ho7 hg7 hnn7 hn7 c0
            apply hcontra
            clear hcontra
            go_wp2
            go_roundw
            case rel => exact ⟨j + 1, m + 1, A7, c7, rfl, by go_num, by omega, by omega, HO7, HB7⟩
            case measure => simp [intOf]; omega
          · have d0 : ¬ (v : Int) < (x : Int) := by omega
            have HO7 := Lib.hid (show wr.ownsRow w.heap.size 23 1 (.slice A1 m c1) m (nCells (F ++ (l.take (j + 1)).filter fun x => decide (v < x))) from by
              rw [filter_step HX.out, if_neg (by simp; omega), List.append_nil]
              exact HO.out)
            clear hv HO
            go_wp2
            go_roundw
            case rel => exact ⟨j + 1, m, A1, c1, rfl, by go_num, by omega, by omega, HO7, HB⟩
            case measure => simp [intOf]; omega
        · have e : j = k := by omega
          subst e
          have HO1 := Lib.hid (show wr.ownsRow w.heap.size 23 1 (.slice A1 m c1) m (nCells (withV l v)) from by
            have := HO.out
            rw [List.take_of_length_le (by rw [HL.out]; exact Nat.le_refl _), HFE.out, List.append_assoc] at this
            exact this)
          clear HO
          go_wp2
          go_ret
          exact ⟨A1, m, c1, rfl, by have := HO1.out.1; rw [nCells_length] at this; omega, HO1.out, HB.out⟩
end Go.Proofs.Yteaibgnelnblnaa
end
section
namespace Go.Proofs.Yteaibgnelnblnaa
open Go.RowKit Me Tx Ed Mg Va

theorem vertsE_len : ∀ (l : List EdD) (out : List Nat), (vertsE out l).length ≤ out.length + 2 * l.length
  | [], out => by simp [vertsE]
  | e :: l, out => by
    have h1 := vertsE_len l (withV (withV out e.src) e.dst)
    have h2 := withV_len out e.src
    have h3 := withV_len (withV out e.src) e.dst
    have h4 : vertsE out (e :: l) = vertsE (withV (withV out e.src) e.dst) l := rfl
    rw [h4, List.length_cons]
    omega
theorem verts_step {l : List EdD} {k : Nat} {x : EdD} (h : l[k]? = some x) : vertsE [] (l.take (k + 1)) = withV (withV (vertsE [] (l.take k)) x.src) x.dst := by
  rw [List.take_add_one, h]
  exact vertsE_snoc _ _ _
/-- What is known of each slot where an edge's ends are put in. -/
def rvG (a : Addr) (m c k : Nat) (n1 c1 : Nat) (A1 : Option Addr) (B : Nat) (L : List Nat) (x : EdD) : Gw.Fact := fun t v W =>
  match t with
  | 3 | 14 => v = .slice A1 n1 c1
  | 4 | 15 | 21 => v = .slice (some a) m c
  | 5 | 16 | 22 => v = .int .i64 (k : Int)
  | 17 | 18 | 23 => v = .pointer (some (a.add (k * 3)))
  | 24 => v = .pointer (some ⟨(a.add (k * 3)).block, (a.add (k * 3)).off + 1, none⟩)
  | 19 => v = .int .u32 (x.src : Int)
  | 25 => v = .int .u32 (x.dst : Int)
  | 20 => ∃ A n c, v = .slice A n c ∧ (withV L x.src).length = n ∧ Cs W W.heap.size A (nCells (withV L x.src))
  | 26 => ∃ A n c, v = .slice A n c ∧ (withV (withV L x.src) x.dst).length = n ∧ Cs W W.heap.size A (nCells (withV (withV L x.src) x.dst)) ∧ W.ownsRow B 23 1 (.slice A n c) n (nCells (withV (withV L x.src) x.dst))
  | _ => True
variable {lo : Nat} {A : Option Addr} {n c : Nat} {l : List RwD} {w : World}
set_option maxRecDepth 100000 in
set_option maxHeartbeats 2000000 in
theorem rverts_any (hl : l.length = n) (hn : n ≤ 1000000) (hfew : (edgesG l).length ≤ 400000) (hr : RowsAt w lo w.heap.size A l) :
    Calls Try.prog 24 #[.slice A n c] w (NewN w (vertsE [] (edgesG l))) := by
  have HE := Lib.hid (show ∀ W, Below w.heap.size w W → Calls Try.prog 21 #[.slice A n c] W (NewE W (edgesG l)) from fun W hW => redges_any hl hn (by omega) ((hr.below hW).more hW.size))
  have HB0 := Lib.hid (show Below w.heap.size w (w.alloc (.cells #[] 23)) from (Below.refl _ _).alloc (Nat.le_refl _) _)
  obtain ⟨E, hE⟩ : ∃ E, E = edgesG l := ⟨_, rfl⟩
  rw [← hE] at hfew HE
  rw [← hE]
  have HF := Lib.hid hfew
  clear hl hr hE hfew
  have HO0 := Lib.hid (show (w.alloc (.cells #[] 23)).ownsRow w.heap.size 23 1 (.slice (some ⟨w.heap.size, 0, none⟩) 0 0) 0 [] from ⟨rfl, .inr ⟨w.heap.size, 0, #[], rfl, Nat.le_refl _, heap_alloc_new w _, Nat.le_refl _, by decide, rfl, rfl⟩⟩)
  go_enter Try.func24, Try.ntmps24
  go_wp2_with fail
  refine (HE.out _ HB0.out).mono ?_
  rintro e w1 ⟨Ae, m, ce, rfl, hlE, hoE, hb1⟩
  have HLE := Lib.hid hlE
  have HB1 := Lib.hid (HB0.out.trans (hb1.mono HB0.out.size))
  have HO1 := Lib.hid (own_below' HO0.out hb1)
  have HCE := Lib.hid (Cs.of_own hoE)
  have hm : m ≤ 400000 := by rw [← hlE]; exact HF.out
  clear hlE hoE hb1 HO0 HE
  go_wp2
  go_loopw [3, 11] (fun y kv wr => ∃ (k n1 : Nat) (A1 : Option Addr) (c1 : Nat), y = .slice A1 n1 c1 ∧ kv = .int .i64 (k : Int) ∧ k ≤ m ∧ Hid (wr.ownsRow w.heap.size 23 1 (.slice A1 n1 c1) n1 (nCells (vertsE [] (E.take k)))) ∧ Hid (Below w1.heap.size w1 wr)) (fun _ kv _ => m - (intOf kv).toNat)
  case atStart => exact ⟨0, 0, some ⟨w.heap.size, 0, none⟩, 0, rfl, rfl, Nat.zero_le _, Lib.hid HO1.out, Lib.hid (Below.refl _ _)⟩
  case round =>
    clear HO1
    obtain ⟨k, n1, A1, c1, rfl, rfl, hk, HO, HB⟩ := hrel
    by_cases hlt : k < m
    · obtain ⟨x, hx⟩ : ∃ x, E[k]? = some x := ⟨_, List.getElem?_eq_getElem (by rw [HLE.out]; exact hlt)⟩
      obtain ⟨a, rfl, hab, hat⟩ := eds_at HCE.out hx
      have CX := Lib.hid (hat.below HB.out (by rw [block_add]; exact hab))
      have HST := Lib.hid (verts_step hx)
      have hkk : k < m := hlt
      obtain ⟨L, hL⟩ : ∃ L, L = vertsE [] (E.take k) := ⟨_, rfl⟩
      have HLL := Lib.hid (show L.length = n1 ∧ n1 ≤ 2 * k from by
        have h1 := HO.out.1
        have h2 := vertsE_len (E.take k) []
        rw [nCells_length] at h1
        have h3 : (E.take k).length ≤ k := by rw [List.length_take]; omega
        rw [hL]
        simp only [List.length_nil] at h2
        omega)
      rw [← hL] at HO HST
      have HCL := Lib.hid (Cs.of_own HO.out)
      clear hx hat hab hL
      have hlt2 : (k : Int) < (m : Int) := by omega
      go_wp2_with fail
      refine wp_region_tlT (tail := [_]) 13 (rvG a m ce k n1 c1 A1 w.heap.size L x) [14, 15, 16, 17, 18, 19, 20, 21, 22, 23, 24, 25, 26] [([3], none), ([4], none), ([5], none), ([15, 16], none), ([17], none), ([18], none), ([14, 19], none), ([4], none), ([5], none), ([21, 22], none), ([23], none), ([24], none), ([20, 25], none)] 29 (by kernel_rfl) (by kernel_rfl) rfl ?h0 ?hreq rfl ?hend
      case h0 =>
        intro t W hnd _
        unfold rvG
        split <;> first | rfl | trivial | exact absurd (by simp) hnd
      case hreq =>
        refine ⟨?_, ?_, ?_, ?_, ?_, ?_, ?_, ?_, ?_, ?_, ?_, ?_, ?_, trivial⟩
        all_goals
          intro ac W hg hk'
          have hg' : Below wr.heap.size wr W := hg
          obtain ⟨x0, x1, x2⟩ := CX.out.past hg'
          simp only [Gw.Knows, rvG] at hk'
          try (simp [go_sem, Gw.OpReq, Gw.Ok, Gw.Post, Gw.Holds, rvG, Gw.Grows.refl, hk', x0, x1, hkk]; done)
        · simp [go_sem, Gw.OpReq, Gw.Ok, Gw.Post, Gw.Holds, rvG, hk']
          refine ⟨Gw.Grows.refl _, (rwith_any A1 n1 c1 x.src L W HLL.out.1 (by have := HLL.out.2; omega) ((HCL.out.below hg').more hg'.size)).mono ?_⟩
          rintro e W2 ⟨A2, n2, c2, rfl, h1, h2, h3⟩
          exact ⟨_, rfl, h3, fun W3 hW3 => ⟨A2, n2, ⟨c2, rfl⟩, h1, ((Cs.of_own h2).below (show Below W2.heap.size W2 W3 from hW3)).more (show Below W2.heap.size W2 W3 from hW3).size⟩⟩
        · obtain ⟨⟨A2, n2, c2, e20, h1, h2⟩, e25, -⟩ := hk'
          simp [go_sem, Gw.OpReq, Gw.Ok, Gw.Post, Gw.Holds, rvG, e20, e25]
          refine ⟨Gw.Grows.refl _, (rwith_any A2 n2 c2 x.dst _ W h1 (by have := withV_len L x.src; have := HLL.out; omega) h2).mono ?_⟩
          rintro e W2 ⟨A3, n3, c3, rfl, h4, h5, h6⟩
          refine ⟨_, rfl, h6, fun W3 hW3 => ⟨A3, n3, c3, rfl, h4, ((Cs.of_own h5).below (show Below W2.heap.size W2 W3 from hW3)).more (show Below W2.heap.size W2 W3 from hW3).size, own_below' (own_more h5 ?_) hW3⟩⟩
          have h7 := hg'.size
          have h8 := HB.out.size
          have h9 := HB1.out.size
          omega
      case hend =>
        intro y w5 hg hy
        obtain ⟨A3, n3, c3, y26, h4, h5, h6⟩ : ∃ A n c, y 26 = .slice A n c ∧ (withV (withV L x.src) x.dst).length = n ∧ Cs w5 w5.heap.size A (nCells (withV (withV L x.src) x.dst)) ∧ w5.ownsRow w.heap.size 23 1 (.slice A n c) n (nCells (withV (withV L x.src) x.dst)) := (hy 26 (by simp)).now
        have HB5 := Lib.hid (HB.out.trans (Below.mono (show Below wr.heap.size wr w5 from hg) HB.out.size))
        rw [← HST.out] at h6
        have HO5 := Lib.hid h6
        clear hg hy h4 h5 h6
        simp only [Gw.putAll, Act.put, List.setIfInBounds_toArray, List.set_cons_zero, List.set_cons_succ]
        rw [y26]
        refine ⟨?_⟩
        refine Gw.wp_assign (.tmp 26) _ rfl rfl ?_
        simp only [Gw.seqTail, Act.put, List.setIfInBounds_toArray, List.set_cons_zero, List.set_cons_succ]
        go_wp2
        go_roundw
        case rel => exact ⟨k + 1, n3, A3, c3, rfl, by go_num, by omega, HO5, HB5⟩
        case measure => simp [intOf]; omega
    · have e : k = m := by omega
      subst e
      have HO1 := Lib.hid (show wr.ownsRow w.heap.size 23 1 (.slice A1 n1 c1) n1 (nCells (vertsE [] E)) from by
        have := HO.out
        rw [List.take_of_length_le (by rw [HLE.out]; exact Nat.le_refl _)] at this
        exact this)
      have HB9 := Lib.hid (HB1.out.trans (HB.out.mono HB1.out.size))
      clear HO
      go_wp2
      go_ret
      exact ⟨A1, n1, c1, rfl, by have := HO1.out.1; rw [nCells_length] at this; omega, HO1.out, HB9.out⟩
end Go.Proofs.Yteaibgnelnblnaa
end
section
namespace Go.Proofs.Yteaibgnelnblnaa
open Go.RowKit Me Tx Ed Mg Va

/-- The number at a place. -/
def nat_ (L : List Nat) (i : Nat) : Nat := L.getD i 0
theorem nat_get {L : List Nat} {i : Nat} (h : i < L.length) : L[i]? = some (nat_ L i) := by unfold nat_; rw [List.getD_eq_getElem?_getD, List.getElem?_eq_getElem h]; rfl
theorem nat_set {L : List Nat} {i j x : Nat} (h : i < L.length) : nat_ (L.set i x) j = if j = i then x else nat_ L j := by
  unfold nat_
  rw [List.getD_eq_getElem?_getD, List.getD_eq_getElem?_getD]
  by_cases e : j = i
  · subst e; rw [if_pos rfl, List.getElem?_set_self h]; rfl
  · rw [if_neg e, List.getElem?_set_ne (Ne.symm e)]
/-- Two places changed. -/
def swp (L : List Nat) (i j : Nat) : List Nat := (L.set i (nat_ L j)).set j (nat_ L i)
theorem swp_length (L : List Nat) (i j : Nat) : (swp L i j).length = L.length := by simp [swp]
theorem nat_swp {L : List Nat} {i j k : Nat} (hi : i < L.length) (hj : j < L.length) : nat_ (swp L i j) k = if k = j then nat_ L i else if k = i then nat_ L j else nat_ L k := by
  unfold swp
  rw [nat_set (by rw [List.length_set]; exact hj), nat_set hi]
theorem swp_perm {L : List Nat} {i j : Nat} (hi : i < L.length) (hj : j < L.length) : (swp L i j).Perm L := by
  have h := List.set_set_perm hi hj
  have e1 : L[i] = nat_ L i := by have := nat_get hi; rw [List.getElem?_eq_getElem hi] at this; injection this
  have e2 : L[j] = nat_ L j := by have := nat_get hj; rw [List.getElem?_eq_getElem hj] at this; injection this
  rw [e1, e2] at h
  exact h
/-- What changes lies between a and b, and is put into another order there. -/
structure Pm (a b : Nat) (L L' : List Nat) : Prop where
  len : L'.length = L.length
  perm : L'.Perm L
  out : ∀ i, i < a ∨ b ≤ i → nat_ L' i = nat_ L i
  sub : ∀ i, a ≤ i → i < b → ∃ j, a ≤ j ∧ j < b ∧ nat_ L' i = nat_ L j
theorem Pm.refl (a b : Nat) (L : List Nat) : Pm a b L L := ⟨rfl, List.Perm.refl _, fun _ _ => rfl, fun i h1 h2 => ⟨i, h1, h2, rfl⟩⟩
theorem Pm.trans {a b : Nat} {L M N : List Nat} (h : Pm a b L M) (k : Pm a b M N) : Pm a b L N :=
  ⟨k.len.trans h.len, k.perm.trans h.perm, fun i hi => (k.out i hi).trans (h.out i hi), fun i h1 h2 => by
    obtain ⟨j, j1, j2, e⟩ := k.sub i h1 h2
    obtain ⟨m, m1, m2, e'⟩ := h.sub j j1 j2
    exact ⟨m, m1, m2, e.trans e'⟩⟩
theorem Pm.more {a b a' b' : Nat} {L M : List Nat} (h : Pm a b L M) (ha : a' ≤ a) (hb : b ≤ b') : Pm a' b' L M :=
  ⟨h.len, h.perm, fun i hi => h.out i (by omega), fun i h1 h2 => by
    by_cases hi : a ≤ i ∧ i < b
    · obtain ⟨j, j1, j2, e⟩ := h.sub i hi.1 hi.2
      exact ⟨j, by omega, by omega, e⟩
    · exact ⟨i, h1, h2, h.out i (by omega)⟩⟩
theorem Pm.swp {a b i j : Nat} {L : List Nat} (hi : a ≤ i) (hib : i < b) (hj : a ≤ j) (hjb : j < b) (hb : b ≤ L.length) : Pm a b L (swp L i j) := by
  have hil : i < L.length := by omega
  have hjl : j < L.length := by omega
  refine ⟨swp_length _ _ _, swp_perm hil hjl, fun k hk => ?_, fun k h1 h2 => ?_⟩
  · rw [nat_swp hil hjl, if_neg (by omega), if_neg (by omega)]
  · rw [nat_swp hil hjl]
    by_cases e1 : k = j
    · rw [if_pos e1]; exact ⟨i, hi, hib, rfl⟩
    · rw [if_neg e1]
      by_cases e2 : k = i
      · rw [if_pos e2]; exact ⟨j, hj, hjb, rfl⟩
      · rw [if_neg e2]; exact ⟨k, h1, h2, rfl⟩
/-- What holds of all of a part goes on to hold. -/
theorem Pm.all {a b : Nat} {L M : List Nat} {p : Nat → Prop} (h : Pm a b L M) (hp : ∀ i, a ≤ i → i < b → p (nat_ L i)) : ∀ i, a ≤ i → i < b → p (nat_ M i) := fun i h1 h2 => by
  obtain ⟨j, j1, j2, e⟩ := h.sub i h1 h2
  rw [e]
  exact hp j j1 j2
/-- A part rises. -/
def So (a b : Nat) (L : List Nat) : Prop := ∀ i j, a ≤ i → i < j → j < b → nat_ L i ≤ nat_ L j
theorem So.few {a b : Nat} {L : List Nat} (h : b ≤ a + 1) : So a b L := fun i j h1 h2 h3 => by omega
/-- The rise of all but one that is on its way down: insertion. -/
structure Ins (a i j : Nat) (L : List Nat) : Prop where
  low : ∀ p q, a ≤ p → p < q → q ≤ i → p ≠ j → q ≠ j → nat_ L p ≤ nat_ L q
  up : ∀ q, j < q → q ≤ i → nat_ L j ≤ nat_ L q
theorem Ins.start {a i : Nat} {L : List Nat} (h : So a i L) : Ins a i i L := ⟨fun p q h1 h2 h3 h4 h5 => h p q h1 h2 (by omega), fun q h1 h2 => by omega⟩
theorem Ins.step {a i j : Nat} {L : List Nat} (h : Ins a i j L) (hj : a < j) (hji : j ≤ i) (hl : i < L.length) (hlt : nat_ L j < nat_ L (j - 1)) : Ins a i (j - 1) (swp L j (j - 1)) := by
  have h1 : j < L.length := by omega
  have h2 : j - 1 < L.length := by omega
  refine ⟨fun p q hp hpq hq hpj hqj => ?_, fun q hjq hq => ?_⟩
  · rw [nat_swp h1 h2, nat_swp h1 h2, if_neg hpj, if_neg hqj]
    by_cases e1 : p = j
    · rw [if_pos e1, if_neg (by omega)]
      exact h.low (j - 1) q (by omega) (by omega) hq (by omega) (by omega)
    · rw [if_neg e1]
      by_cases e2 : q = j
      · rw [if_pos e2]
        exact h.low p (j - 1) hp (by omega) (by omega) e1 (by omega)
      · rw [if_neg e2]
        exact h.low p q hp hpq hq e1 e2
  · rw [nat_swp h1 h2, nat_swp h1 h2, if_pos rfl, if_neg (by omega)]
    by_cases e2 : q = j
    · rw [if_pos e2]; omega
    · rw [if_neg e2]; exact h.up q (by omega) hq
theorem Ins.done {a i j : Nat} {L : List Nat} (h : Ins a i j L) (haj : a ≤ j) (hji : j ≤ i) (hlt : j = a ∨ nat_ L (j - 1) ≤ nat_ L j) : So a (i + 1) L := fun p q hp hpq hq => by
  by_cases e1 : p = j
  · subst e1; exact h.up q hpq (by omega)
  · by_cases e2 : q = j
    · subst e2
      rcases hlt with e | hlt
      · omega
      · by_cases e3 : p = q - 1
        · subst e3; exact hlt
        · exact Nat.le_trans (h.low p (q - 1) hp (by omega) (by omega) e1 (by omega)) hlt
    · exact h.low p q hp hpq (by omega) e1 e2
end Go.Proofs.Yteaibgnelnblnaa
end
section
namespace Go.Proofs.Yteaibgnelnblnaa
open Go.RowKit Me Tx Ed Mg Va

/-- Children are no more than their parents, from lo on. -/
def Hp (f lo hi : Nat) (L : List Nat) : Prop := ∀ i ch, lo ≤ i → (ch = 2 * i + 1 ∨ ch = 2 * i + 2) → ch < hi → nat_ L (f + ch) ≤ nat_ L (f + i)
/-- All but one. -/
structure Sift (f lo hi r : Nat) (L : List Nat) : Prop where
  all : ∀ i ch, lo ≤ i → i ≠ r → (ch = 2 * i + 1 ∨ ch = 2 * i + 2) → ch < hi → nat_ L (f + ch) ≤ nat_ L (f + i)
  up : ∀ p ch, lo ≤ p → (r = 2 * p + 1 ∨ r = 2 * p + 2) → (ch = 2 * r + 1 ∨ ch = 2 * r + 2) → ch < hi → nat_ L (f + ch) ≤ nat_ L (f + p)
theorem Sift.start {f lo hi : Nat} {L : List Nat} (h : Hp f (lo + 1) hi L) : Sift f lo hi lo L :=
  ⟨fun i ch h1 h2 h3 h4 => h i ch (by omega) h3 h4, fun p ch h1 h2 h3 h4 => by omega⟩
theorem Sift.leaf {f lo hi r : Nat} {L : List Nat} (h : Sift f lo hi r L) (hr : hi ≤ 2 * r + 1) : Hp f lo hi L := fun i ch h1 h2 h3 => by
  by_cases e : i = r
  · subst e; omega
  · exact h.all i ch h1 e h2 h3
theorem Sift.stop {f lo hi r c : Nat} {L : List Nat} (h : Sift f lo hi r L) (hc : ∀ ch, (ch = 2 * r + 1 ∨ ch = 2 * r + 2) → ch < hi → nat_ L (f + ch) ≤ nat_ L (f + c)) (hle : nat_ L (f + c) ≤ nat_ L (f + r)) : Hp f lo hi L := fun i ch h1 h2 h3 => by
  by_cases e : i = r
  · subst e; exact Nat.le_trans (hc ch h2 h3) hle
  · exact h.all i ch h1 e h2 h3
theorem Sift.step {f lo hi r c : Nat} {L : List Nat} (h : Sift f lo hi r L) (hlo : lo ≤ r) (hc2 : c = 2 * r + 1 ∨ c = 2 * r + 2) (hch : c < hi) (hl : f + hi ≤ L.length)
    (hc : ∀ ch, (ch = 2 * r + 1 ∨ ch = 2 * r + 2) → ch < hi → nat_ L (f + ch) ≤ nat_ L (f + c)) (hlt : nat_ L (f + r) < nat_ L (f + c)) : Sift f lo hi c (swp L (f + r) (f + c)) := by
  have h1 : f + r < L.length := by omega
  have h2 : f + c < L.length := by omega
  refine ⟨fun i ch hi1 hi2 hi3 hi4 => ?_, fun p ch hp1 hp2 hp3 hp4 => ?_⟩
  · rw [nat_swp h1 h2, nat_swp h1 h2]
    by_cases e1 : i = r
    · subst e1
      rw [if_neg (show ¬ f + i = f + c by omega), if_pos (rfl : f + i = f + i)]
      by_cases e2 : ch = c
      · subst e2; rw [if_pos rfl]; omega
      · rw [if_neg (by omega), if_neg (by omega)]; exact hc ch hi3 hi4
    · rw [if_neg (show ¬ f + i = f + c by omega), if_neg (show ¬ f + i = f + r by omega)]
      by_cases e2 : ch = r
      · subst e2
        rw [if_neg (by omega), if_pos rfl]
        exact h.up i c hi1 hi3 hc2 hch
      · rw [if_neg (by omega), if_neg (by omega)]
        exact h.all i ch hi1 e1 hi3 hi4
  · have e : p = r := by omega
    subst e
    rw [nat_swp h1 h2, nat_swp h1 h2, if_neg (by omega), if_neg (by omega), if_neg (show ¬ f + p = f + c by omega), if_pos rfl]
    exact h.all c ch (by omega) (by omega) hp3 hp4
/-- The first is the greatest. -/
theorem Hp.top {f hi : Nat} {L : List Nat} (h : Hp f 0 hi L) : ∀ j, j < hi → nat_ L (f + j) ≤ nat_ L f := fun j => by
  induction j using Nat.strongRecOn with
  | _ j ih =>
    intro hj
    by_cases e : j = 0
    · subst e; exact Nat.le_refl _
    · have h1 := h ((j - 1) / 2) j (Nat.zero_le _) (by omega) hj
      exact Nat.le_trans h1 (ih _ (by omega) (by omega))
/-- Every place from t on holds what is no less than all ahead of it. -/
def Tl_ (a t b : Nat) (L : List Nat) : Prop := ∀ p q, a ≤ p → p < q → t ≤ q → q < b → nat_ L p ≤ nat_ L q
theorem Tl_.so {a b : Nat} {L : List Nat} (h : Tl_ a a b L) : So a b L := fun p q h1 h2 h3 => h p q h1 h2 (by omega) h3
theorem Tl_.pm {a t b : Nat} {L M : List Nat} (h : Tl_ a t b L) (hp : Pm a t L M) (ht : t ≤ b) : Tl_ a t b M := fun p q h1 h2 h3 h4 => by
  rw [hp.out q (by omega)]
  by_cases e : p < t
  · obtain ⟨j, j1, j2, e'⟩ := hp.sub p h1 e
    rw [e']
    exact h j q j1 (by omega) h3 h4
  · rw [hp.out p (by omega)]
    exact h p q h1 h2 h3 h4
theorem heap_swap {a i b : Nat} {L : List Nat} (h : Hp a 0 (i + 1) L) (ht : Tl_ a (a + i + 1) b L) (hb : b ≤ L.length) (hib : a + i < b) : Hp a 1 i (swp L a (a + i)) ∧ Tl_ a (a + i) b (swp L a (a + i)) := by
  have h1 : a < L.length := by omega
  have h2 : a + i < L.length := by omega
  refine ⟨fun k ch k1 k2 k3 => ?_, fun p q p1 p2 p3 p4 => ?_⟩
  · rw [nat_swp h1 h2, nat_swp h1 h2, if_neg (by omega), if_neg (by omega), if_neg (by omega), if_neg (by omega)]
    exact h k ch (Nat.zero_le _) k2 (by omega)
  · have htop := h.top
    rw [nat_swp h1 h2, nat_swp h1 h2]
    by_cases e : q = a + i
    · rw [if_pos e]
      rw [if_neg (show ¬ p = a + i by omega)]
      by_cases e2 : p = a
      · rw [if_pos e2]; exact htop i (by omega)
      · rw [if_neg e2]
        have := htop (p - a) (by omega)
        rw [show a + (p - a) = p by omega] at this
        exact this
    · rw [if_neg e, if_neg (show ¬ q = a by omega)]
      by_cases e2 : p = a + i
      · rw [if_pos e2]; exact ht a q (Nat.le_refl _) (by omega) (by omega) p4
      · rw [if_neg e2]
        by_cases e3 : p = a
        · rw [if_pos e3]; exact ht (a + i) q (by omega) (by omega) (by omega) p4
        · rw [if_neg e3]; exact ht p q p1 p2 (by omega) p4
theorem Tl_.last {a b : Nat} {L : List Nat} : Tl_ a b b L := fun p q h1 h2 h3 h4 => by omega
/-- What lies ahead of a part is no more than all of it. -/
def LoOk (a b : Nat) (L : List Nat) : Prop := a = 0 ∨ ∀ k, a ≤ k → k < b → nat_ L (a - 1) ≤ nat_ L k
theorem LoOk.pm {a b : Nat} {L M : List Nat} (h : LoOk a b L) (hp : Pm a b L M) : LoOk a b M := by
  rcases h with h | h
  · exact .inl h
  · by_cases e : a = 0
    · exact .inl e
    · right
      rw [hp.out (a - 1) (by omega)]
      exact hp.all h
theorem LoOk.less {a b b' : Nat} {L : List Nat} (h : LoOk a b L) (hb : b' ≤ b) : LoOk a b' L := h.imp id fun h k h1 h2 => h k h1 (by omega)
/-- A part that is left to be sorted, all about it being in its place. -/
structure Qs (a0 b0 a b : Nat) (L M : List Nat) : Prop where
  pm : Pm a0 b0 L M
  la : a0 ≤ a
  ab : a ≤ b
  bb : b ≤ b0
  lo : So a0 a M
  hi : So b b0 M
  x1 : ∀ p q, a0 ≤ p → p < a → a ≤ q → q < b0 → nat_ M p ≤ nat_ M q
  x2 : ∀ p q, a ≤ p → p < b → b ≤ q → q < b0 → nat_ M p ≤ nat_ M q
theorem Qs.start {a b : Nat} {L : List Nat} (h : a ≤ b) : Qs a b a b L L :=
  ⟨Pm.refl _ _ _, Nat.le_refl _, h, Nat.le_refl _, So.few (by omega), So.few (by omega), fun p q h1 h2 => by omega, fun p q h1 h2 h3 h4 => by omega⟩
variable {a0 b0 a b mid : Nat} {L M N : List Nat}
theorem Qs.low (h : Qs a0 b0 a b L M) (hl : LoOk a0 b0 L) : LoOk a b M := by
  by_cases e : a = a0
  · subst e
    exact (hl.pm h.pm).less h.bb
  · right
    intro k h1 h2
    have := h.la
    have := h.bb
    exact h.x1 (a - 1) k (by omega) (by omega) h1 (by omega)
theorem Qs.step (h : Qs a0 b0 a b L M) (hp : Pm a b M N) : Qs a0 b0 a b L N := by
  have := h.la
  have := h.ab
  have := h.bb
  refine ⟨h.pm.trans (hp.more h.la h.bb), h.la, h.ab, h.bb, fun i j h1 h2 h3 => ?_, fun i j h1 h2 h3 => ?_, fun p q h1 h2 h3 h4 => ?_, fun p q h1 h2 h3 h4 => ?_⟩
  · rw [hp.out i (by omega), hp.out j (by omega)]; exact h.lo i j h1 h2 h3
  · rw [hp.out i (by omega), hp.out j (by omega)]; exact h.hi i j h1 h2 h3
  · rw [hp.out p (by omega)]
    by_cases e : q < b
    · obtain ⟨j, j1, j2, e'⟩ := hp.sub q h3 e
      rw [e']
      exact h.x1 p j h1 h2 j1 (by omega)
    · rw [hp.out q (by omega)]; exact h.x1 p q h1 h2 h3 h4
  · rw [hp.out q (by omega)]
    obtain ⟨j, j1, j2, e'⟩ := hp.sub p h1 h2
    rw [e']
    exact h.x2 j q j1 j2 h3 h4
theorem Qs.done (h : Qs a0 b0 a b L M) (hs : So a b M) : So a0 b0 M := fun i j h1 h2 h3 => by
  by_cases e1 : i < a
  · by_cases e2 : j < a
    · exact h.lo i j h1 h2 e2
    · exact h.x1 i j h1 e1 (by omega) h3
  · by_cases e3 : i < b
    · by_cases e4 : j < b
      · exact hs i j (by omega) h2 e4
      · exact h.x2 i j (by omega) e3 (by omega) h3
    · exact h.hi i j (by omega) h2 h3
/-- What a partition says. -/
structure Part (a b mid : Nat) (M : List Nat) : Prop where
  am : a ≤ mid
  mb : mid < b
  low : ∀ k, a ≤ k → k < mid → nat_ M k ≤ nat_ M mid
  up : ∀ k, mid < k → k < b → nat_ M mid ≤ nat_ M k
theorem Part.pmL (h : Part a b mid M) (hp : Pm a mid M N) : Part a b mid N := by
  have := h.am
  have := h.mb
  refine ⟨h.am, h.mb, ?_, fun k h1 h2 => ?_⟩
  · rw [hp.out mid (by omega)]; exact hp.all (p := fun x => x ≤ nat_ M mid) h.low
  · rw [hp.out mid (by omega), hp.out k (by omega)]; exact h.up k h1 h2
theorem Part.pmR (h : Part a b mid M) (hp : Pm (mid + 1) b M N) : Part a b mid N := by
  have := h.am
  have := h.mb
  refine ⟨h.am, h.mb, fun k h1 h2 => ?_, fun k h1 h2 => ?_⟩
  · rw [hp.out mid (by omega), hp.out k (by omega)]; exact h.low k h1 h2
  · rw [hp.out mid (by omega)]; exact hp.all (p := fun x => nat_ M mid ≤ x) (fun i h1 h2 => h.up i (by omega) h2) k (by omega) h2
theorem Qs.left (h : Qs a0 b0 a b L M) (hp : Part a b mid M) (hs : So a mid M) : Qs a0 b0 (mid + 1) b L M := by
  have := h.la
  have := h.bb
  have := hp.am
  have := hp.mb
  refine ⟨h.pm, by omega, by omega, h.bb, fun i j h1 h2 h3 => ?_, h.hi, fun p q h1 h2 h3 h4 => ?_, fun p q h1 h2 h3 h4 => h.x2 p q (by omega) h2 h3 h4⟩
  · by_cases e1 : i < a
    · by_cases e : j < a
      · exact h.lo i j h1 h2 e
      · exact h.x1 i j h1 e1 (by omega) (by omega)
    · by_cases e2 : j = mid
      · subst e2; exact hp.low i (by omega) h2
      · exact hs i j (by omega) h2 (by omega)
  · by_cases e1 : p < a
    · exact h.x1 p q h1 e1 (by omega) h4
    · by_cases e2 : q < b
      · have h5 := hp.up q (by omega) e2
        by_cases e3 : p = mid
        · subst e3; exact h5
        · exact Nat.le_trans (hp.low p (by omega) (by omega)) h5
      · exact h.x2 p q (by omega) (by omega) (by omega) h4
theorem Qs.right (h : Qs a0 b0 a b L M) (hp : Part a b mid M) (hs : So (mid + 1) b M) : Qs a0 b0 a mid L M := by
  have := h.la
  have := h.bb
  have := hp.am
  have := hp.mb
  refine ⟨h.pm, h.la, hp.am, by omega, h.lo, fun i j h1 h2 h3 => ?_, h.x1, fun p q h1 h2 h3 h4 => ?_⟩
  · by_cases e1 : i < b
    · by_cases e2 : j < b
      · by_cases e3 : i = mid
        · subst e3; exact hp.up j h2 e2
        · exact hs i j (by omega) h2 e2
      · exact h.x2 i j (by omega) e1 (by omega) h3
    · exact h.hi i j (by omega) h2 h3
  · by_cases e1 : q < b
    · by_cases e2 : q = mid
      · subst e2; exact hp.low p h1 h2
      · exact Nat.le_trans (hp.low p h1 h2) (hp.up q (by omega) e1)
    · exact h.x2 p q h1 (by omega) (by omega) h4
/-- A part whose elements are all the same, ahead of what is greater. -/
structure Eqs (a b mid v : Nat) (M : List Nat) : Prop where
  am : a < mid
  mb : mid ≤ b
  low : ∀ k, a ≤ k → k < mid → nat_ M k ≤ v
  up : ∀ k, mid ≤ k → k < b → v ≤ nat_ M k
theorem Qs.eqs {v : Nat} (h : Qs a0 b0 a b L M) (he : Eqs a b mid v M) (hv : ∀ k, a ≤ k → k < b → v ≤ nat_ M k) : Qs a0 b0 mid b L M := by
  have := h.la
  have := h.bb
  have := he.am
  have := he.mb
  refine ⟨h.pm, by omega, he.mb, h.bb, fun i j h1 h2 h3 => ?_, h.hi, fun p q h1 h2 h3 h4 => ?_, fun p q h1 h2 h3 h4 => h.x2 p q (by omega) h2 h3 h4⟩
  · by_cases e1 : i < a
    · by_cases e : j < a
      · exact h.lo i j h1 h2 e
      · exact h.x1 i j h1 e1 (by omega) (by omega)
    · exact Nat.le_trans (he.low i (by omega) (by omega)) (hv j (by omega) (by omega))
  · by_cases e1 : p < a
    · exact h.x1 p q h1 e1 (by omega) h4
    · by_cases e2 : q < b
      · exact Nat.le_trans (he.low p (by omega) (by omega)) (he.up q (by omega) e2)
      · exact h.x2 p q (by omega) (by omega) (by omega) h4
end Go.Proofs.Yteaibgnelnblnaa
end
