/- Texts put together, for a law: MsM, GqS, GqE, GqF, GqT, GqV, NuP. -/
import Derived.Deep.QuietTactic
import Derived.BigQuiet
import Derived.Test.YteaibgnelnblnaaKG23
import Derived.Test.YteaibgnelnblnaaKG20
import Derived.Test.YteaibgnelnblnaaKG23
import Derived.Test.YteaibgnelnblnaaKG8
section
namespace Go.Proofs.Yteaibgnelnblnaa
open Go.RowKit Me Tx Ed Mg Va

theorem below_drewN (w : World) (q : Nat) : Below w.heap.size w (w.drewN q) := ⟨rfl, rfl, rfl, Nat.le_refl _, fun _ _ => rfl⟩
/-- What is known of each slot where a row is asked. -/
def m23 (b : Addr) (P : Option Addr) (m c1 i i1 n1 c2 s s1 : Nat) (q0 : Bool) : Gw.Fact := fun t v _ =>
  match t with
  | 7 | 89 | 97 => v = .slice (some b) m c1
  | 10 | 90 | 98 | 106 => v = .int .i64 (i : Int)
  | 91 | 99 => v = .pointer (some (b.add (i * 2)))
  | 92 | 100 => v = .pointer (some ⟨(b.add (i * 2)).block, (b.add (i * 2)).off + 1, none⟩)
  | 93 | 101 => v = .slice P n1 c2
  | 94 => v = .bool true
  | 95 | 96 | 103 | 104 | 105 | 121 | 122 => v = .bool false
  | 102 => v = .int .i64 (n1 : Int)
  | 107 | 108 => v = .bool q0
  | 109 | 114 => q0 = true → v = .slice (some b) m c1
  | 110 | 115 => q0 = true → v = .int .i64 (i : Int)
  | 111 | 112 => q0 = true → v = .pointer (some (b.add (i * 2)))
  | 113 => q0 = true → v = .int .u32 (s : Int)
  | 116 => q0 = true → v = .int .i64 (i1 : Int)
  | 117 | 118 => q0 = true → v = .pointer (some (b.add (i1 * 2)))
  | 119 => q0 = true → v = .int .u32 (s1 : Int)
  | 120 => q0 = true → v = .bool false
  | _ => True
end Go.Proofs.Yteaibgnelnblnaa
end
section
namespace Go.Proofs.Yteaibgnelnblnaa
open Go.RowKit Me Tx Ed Mg Va

theorem newG_step {l : List RwD} {k : Nat} {r : RwD} (h : l[k]? = some r) : newG (lastN (l.take k)) (l.drop k) = if errN (lastN (l.take k)) r = 0 then newG (lastN (l.take (k + 1))) (l.drop (k + 1)) else errN (lastN (l.take k)) r := by
  obtain ⟨hk, e⟩ := List.getElem?_eq_some_iff.1 h
  rw [List.drop_eq_getElem_cons hk, e, newG, List.take_add_one, h]
  show _ = if _ then newG (lastN (l.take k ++ [r])) _ else _
  rw [lastN_snoc]
theorem lastN_at {l : List RwD} {k : Nat} {s : RwD} (h : l[k]? = some s) : lastN (l.take (k + 1)) = some s.1 := by
  rw [List.take_add_one, h]
  exact lastN_snoc _ _
theorem errN_form {prev : Option Nat} {r : RwD} (h : r.2.length = 0 ∨ may r.2 = false) : errN prev r = 3 := by
  unfold errN
  rw [if_pos h]
theorem errN_first {r : RwD} (h1 : ¬ r.2.length = 0) (h2 : may r.2 = true) : errN none r = 0 := errN_zero (by omega) h2 fun _ e => by cases e
theorem errN_next {p : Nat} {r : RwD} (h1 : ¬ r.2.length = 0) (h2 : may r.2 = true) : errN (some p) r = if r.1 ≤ p then 13 else 0 := by
  unfold errN
  rw [if_neg (by rintro (h | h); exact h1 h; rw [h2] at h; cases h)]
  by_cases h : r.1 ≤ p
  · simp [h]
  · simp [h]
variable {lo : Nat} {A : Option Addr} {n c : Nat} {l : List RwD} {w : World}
set_option maxRecDepth 100000 in
set_option maxHeartbeats 2000000 in
theorem rnew_any (hl : l.length = n) (hn : n ≤ 1000000) (hna : ∀ r ∈ l, r.2.length ≤ 4294967296) (hr : RowsAt w lo w.heap.size A l) :
    Calls Try.prog 27 #[.slice A n c] w fun e w' => e = .returned (.int .i64 (newG none l)) ∧ Below w.heap.size w w' := by
  have HL := Lib.hid hl
  have HR := Lib.hid hr
  have HNA := Lib.hid hna
  clear hl hr hna
  go_enter Try.func27, Try.ntmps27
  go_wp2
  go_loopw [6] (fun kv wr => ∃ k : Nat, kv = .int .i64 (k : Int) ∧ k ≤ n ∧ Hid (newG none l = newG (lastN (l.take k)) (l.drop k)) ∧ Hid (Below w.heap.size w wr)) (fun kv _ => n - (intOf kv).toNat)
  case atStart => exact ⟨0, rfl, Nat.zero_le _, Lib.hid rfl, Lib.hid (Below.refl _ _)⟩
  case round =>
    obtain ⟨k, rfl, hk, HI, HB⟩ := hrel
    by_cases hlt : k < n
    · obtain ⟨a, ⟨s0, P, n1, c2⟩, r, rfl, hr, hab, x0, x1, hat⟩ := HR.out.at (k := k) (by rw [HL.out]; exact hlt)
      dsimp only at x0 x1 hat
      have HX := Lib.hid (show ∀ W, Below w.heap.size w W → W.cell? (a.add (k * 2)) = some (.int .u32 (r.1 : Int)) ∧ W.cell? ⟨(a.add (k * 2)).block, (a.add (k * 2)).off + 1, none⟩ = some (.slice P n1 c2) from fun W hW =>
        ⟨(hW.cell (by rw [block_add]; exact hab)).trans x0, (hW.cell (p := ⟨(a.add (k * 2)).block, (a.add (k * 2)).off + 1, none⟩) (by show (a.add (k * 2)).block < _; rw [block_add]; exact hab)).trans x1⟩)
      have HRR := Lib.hid hr
      have HLN := Lib.hid hat.len
      dsimp only at HLN
      have HST := Lib.hid (HI.out.trans (newG_step hr))
      have HMY := Lib.hid (refmay_any P n1 c2 r.2 wr hat.len (by rw [← HLN.out]; exact HNA.out r (List.mem_of_getElem? hr)) ((hat.arcs.below HB.out).more HB.out.size))
      have hlt2 : (k : Int) < (n : Int) := by omega
      obtain ⟨c0, c1'⟩ := HX.out wr HB.out
      clear hr hat x0 x1 hab
      by_cases hz : n1 = 0
      · have d0 : ((n1 : Int) == 0) = true := by simp [hz]
        have FIN := Lib.hid (show newG none l = 3 from by rw [HST.out, errN_form (.inl (by rw [HLN.out]; exact hz))]; rfl)
        clear hz
        go_wp2
        go_ret
        exact ⟨by rw [FIN.out]; rfl, HB.out⟩
      have d0 : ((n1 : Int) == 0) = false := by rw [beq_eq_false_iff_ne]; omega
      have HZ := Lib.hid (show ¬ r.2.length = 0 by rw [HLN.out]; exact hz)
      obtain ⟨y, hy⟩ : ∃ y, y = may r.2 := ⟨_, rfl⟩
      rw [← hy] at HMY
      have HY := Lib.hid hy
      clear hz hy
      cases y with
      | false =>
        have FIN := Lib.hid (show newG none l = 3 from by rw [HST.out, errN_form (.inr HY.out.symm)]; rfl)
        go_wp2_with fail
        refine HMY.out.mono ?_
        rintro e w2 ⟨rfl, hb2⟩
        have HB2 := Lib.hid (HB.out.trans (hb2.mono HB.out.size))
        clear hb2 c0 c1'
        go_wp2
        go_ret
        exact ⟨by rw [FIN.out]; rfl, HB2.out⟩
      | true =>
        go_wp2_with fail
        refine HMY.out.mono ?_
        rintro e w2 ⟨rfl, hb2⟩
        have HB2 := Lib.hid (HB.out.trans (hb2.mono HB.out.size))
        clear hb2 c0 c1'
        obtain ⟨c0, c1'⟩ := HX.out w2 HB2.out
        by_cases hk0 : k = 0
        · subst hk0
          have d1 : ¬ (0 : Int) < ((0 : Nat) : Int) := by omega
          have HI3 := Lib.hid (show newG none l = newG (lastN (l.take 1)) (l.drop 1) from by rw [HST.out]; exact if_pos (errN_first HZ.out HY.out.symm))
          go_wp2_with fail
          go_quiet (fail)
          have HB3 := Lib.hid (HB2.out.trans ((below_drewN _ nq).mono HB2.out.size))
          clear c0 c1'
          go_wp2
          go_roundw
          case rel => exact ⟨1, by go_num, by omega, HI3, HB3⟩
          case measure => simp [intOf]; omega
        · obtain ⟨k1, hk1⟩ : ∃ k1, k1 + 1 = k := ⟨k - 1, by omega⟩
          have d1 : 0 < k := by omega
          have d2 : (k : Int) - 1 = (k1 : Int) := by omega
          obtain ⟨a', ⟨s0', P', n1', c2'⟩, r', ea, hr', hab', x0, x1, -⟩ := HR.out.at (k := k1) (by rw [HL.out]; omega)
          injection ea with ea
          subst ea
          have q0 := (HB2.out.cell (by rw [block_add]; exact hab')).trans x0
          have hk1n : (k1 : Int) < (n : Int) := by omega
          have hk1m : k1 < n := by omega
          have hk1w : IntKind.i64.wrap ((k : Int) - 1) = (k1 : Int) := by rw [d2]; exact IntWalk.i64_in _ (by omega)
          have HE := Lib.hid (show errN (lastN (l.take k)) r = if r.1 ≤ r'.1 then 13 else 0 from by rw [← hk1, lastN_at hr']; exact errN_next HZ.out HY.out.symm)
          clear hr' hab' x0 x1 hk1
          obtain ⟨u, hu⟩ : ∃ u, u = r.1 := ⟨_, rfl⟩
          obtain ⟨u', hu'⟩ : ∃ u', u' = r'.1 := ⟨_, rfl⟩
          rw [← hu, ← hu'] at HE
          rw [← hu] at c0
          rw [← hu'] at q0
          clear hu hu'
          by_cases hle : u ≤ u'
          · have d3 : (u : Int) ≤ (u' : Int) := by omega
            have FIN := Lib.hid (show newG none l = 13 from by rw [HST.out, HE.out, if_pos hle]; rfl)
            clear hle
            go_wp2_with fail
            go_quiet (fail)
            have HB3 := Lib.hid (HB2.out.trans ((below_drewN _ nq).mono HB2.out.size))
            clear c0 c1' q0
            go_wp2
            go_ret
            exact ⟨by rw [FIN.out]; rfl, HB3.out⟩
          · have d3 : ¬ (u : Int) ≤ (u' : Int) := by omega
            have HI3 := Lib.hid (show newG none l = newG (lastN (l.take (k + 1))) (l.drop (k + 1)) from by rw [HST.out, HE.out, if_neg hle]; rfl)
            clear hle
            go_wp2_with fail
            go_quiet (fail)
            have HB3 := Lib.hid (HB2.out.trans ((below_drewN _ nq).mono HB2.out.size))
            clear c0 c1' q0
            go_wp2
            go_roundw
            case rel => exact ⟨k + 1, by go_num, by omega, HI3, HB3⟩
            case measure => simp [intOf]; omega
    · have e : k = n := by omega
      subst e
      have FIN := Lib.hid (show newG none l = 0 from by rw [HI.out, List.drop_of_length_le (by rw [HL.out]; exact Nat.le_refl _)]; rfl)
      go_wp2
      go_ret
      exact ⟨by rw [FIN.out]; rfl, HB.out⟩
theorem KsPost.from_ {w w1 w' : World} {q : List RowR × Int} {e : Ending} (h : KsPost w1 q e w') (hb : Below w.heap.size w w1) : KsPost w q e w' := by
  obtain ⟨A, n, c, h1, h2, h3, h4, h5, h6⟩ := h
  obtain ⟨vs, g1, g2, g3⟩ := h5.ex
  exact ⟨A, n, c, h1, h2, h3, h4, ⟨⟨vs, g1, g2, fun i p r hp hr => { g3 i p r hp hr with low := fun a e => Nat.le_trans hb.size ((g3 i p r hp hr).low a e) }⟩, fun h0 a e => Nat.le_trans hb.size (h5.low h0 a e)⟩, hb.trans (h6.mono hb.size)⟩
end Go.Proofs.Yteaibgnelnblnaa
end
section
namespace Go.Proofs.Yteaibgnelnblnaa
open Go.RowKit Me Tx Ed Mg Va

/-- Rows that are being put together, in a box. -/
abbrev Col (H : Nat) (pre : List RwD) (w : World) (A : Option Addr) (n c : Nat) (vs : List RwV) : Prop := ColX (fun _ => False) (H + 1) (H + 1) H pre w A n c vs
def AddPost (w : World) (H : Nat) (pre : List RwD) (r : RwD) (e : Ending) (w' : World) : Prop :=
  e = .returned (.int .i64 (errN (lastN pre) r)) ∧ (errN (lastN pre) r = 0 → ∃ A n c vs, Col H (pre ++ [r]) w' A n c vs) ∧ Out (fun k => H ≤ k) w w'
theorem Col.past {H : Nat} {pre : List RwD} {w w' : World} {A : Option Addr} {n c : Nat} {vs : List RwV} (h : Col H pre w A n c vs) (hb : Below w.heap.size w w') : Col H pre w' A n c vs :=
  h.stay (.of_below hb) (fun _ h => h.elim) (fun h => h)
theorem Col.at {H : Nat} {pre : List RwD} {w : World} {A : Option Addr} {n c : Nat} {vs : List RwV} (h : Col H pre w A n c vs) (hlo : H + 1 ≤ w.heap.size) : RowsAt w (H + 1) w.heap.size A pre :=
  rows_own h.own (Nat.le_refl _) h.len fun i p r hp hr => (h.rows i p r hp hr).1
set_option maxRecDepth 100000 in
set_option maxHeartbeats 4000000 in
theorem add_any {H : Nat} {pre : List RwD} {w : World} {A : Option Addr} {n c : Nat} {vs : List RwV} (h : Col H pre w A n c vs) (hn : n ≤ 100000) (r : RwD) (P : Option Addr) (n1 c1 : Nat) (hl : r.2.length = n1) (hn1 : n1 ≤ 4294967296) (hs : r.1 < 4294967296) (hr : Arcs w w.heap.size P r.2) :
    Calls Try.prog 44 #[.pointer (some ⟨H, 0, none⟩), .agg #[.int .u32 (r.1 : Int), .slice P n1 c1]] w (AddPost w H pre r) := by
  obtain ⟨H1, hH1⟩ : ∃ H1, H1 = w.heap.size := ⟨_, rfl⟩
  obtain ⟨u, hu⟩ : ∃ u, u = r.1 := ⟨_, rfl⟩
  rw [← hu]
  obtain ⟨w0, hw0⟩ : ∃ w0, w0 = w.alloc (.cells #[.int .u32 (u : Int), .slice P n1 c1] 51) := ⟨_, rfl⟩
  have hb0 : Below w.heap.size w w0 := by rw [hw0]; exact (Below.refl _ _).alloc (Nat.le_refl _) _
  have hHl : H + 1 ≤ w.heap.size := h.box.lt
  have HU := Lib.hid hu
  have HHE := Lib.hid hH1
  have HB0 := Lib.hid hb0
  have HCX := Lib.hid h
  have HRB := Lib.hid (show Blk w0 H1 [.int .u32 (u : Int), .slice P n1 c1] from by rw [hw0, hH1]; exact Blk.new w [.int .u32 (u : Int), .slice P n1 c1] _)
  have HMY := Lib.hid (fun W (hW : Below w.heap.size w W) => may_any P n1 c1 r.2 W hl hn1 ((hr.below hW).more hW.size))
  have HCP := Lib.hid (fun W (hW : Below w.heap.size w W) (hm : n1 ≤ 2147483647) => copy_any u P n1 c1 r.2 W hl hm ((hr.below hW).more hW.size))
  have HL := Lib.hid hl
  have HFT := Lib.hid (And.intro hs hr.2)
  have HW0 := Lib.hid hw0
  have HNE := Lib.hid (show lastN pre = none ↔ n = 0 from by
    rw [← h.num]
    unfold lastN
    cases pre with
    | nil => simp
    | cons x l => simp [List.getLast?_cons])
  have HHL := Lib.hid hHl
  have g0 := (h.box.past hb0).cell (i := 0) rfl
  have r1 := HRB.out.cell (i := 1) rfl
  have hgl : H < w0.heap.size := Nat.lt_of_lt_of_le hHl hb0.size
  -- a way out that tells an error
  have HBAD := Lib.hid (show ∀ (W : World) (z : Int), Below w.heap.size w W → errN (lastN pre) r = z → z ≠ 0 → AddPost w H pre r (.returned (.int .i64 z)) W from fun W z hW hz hne =>
    ⟨by rw [hz], fun h0 => absurd (hz.symm.trans h0) hne, .of_below hW⟩)
  clear h hu hb0 hHl hr hl hs hw0 hH1
  go_enter Try.func44, Try.ntmps44
  go_upto_region 1 with fail
  rw [← HW0.out, ← HHE.out]
  by_cases hz : n1 = 0
  · have d0 : ((n1 : Int) == 0) = true := by simp [hz]
    have FIN := Lib.hid (HBAD.out w0 3 HB0.out (errN_form (.inl (by rw [HL.out]; exact hz))) (by decide))
    clear hz
    go_wp2
    go_ret
    exact FIN.out
  have d0 : ((n1 : Int) == 0) = false := by rw [beq_eq_false_iff_ne]; omega
  have HZ := Lib.hid (show ¬ r.2.length = 0 by rw [HL.out]; exact hz)
  obtain ⟨y, hy⟩ : ∃ y, y = may r.2 := ⟨_, rfl⟩
  rw [← hy] at HMY
  have HY := Lib.hid hy
  clear hz hy
  go_wp2_with fail
  refine (HMY.out w0 HB0.out).mono ?_
  rintro e w2 ⟨rfl, hb2⟩
  have HB2 := Lib.hid (HB0.out.trans (hb2.mono HB0.out.size))
  have HRB2 := Lib.hid (HRB.out.past hb2)
  have g1 := (HCX.out.past HB2.out).box.cell (i := 0) rfl
  have q0 := HRB2.out.cell (i := 0) rfl
  clear hb2 g0 r1
  cases y with
  | false =>
    have FIN := Lib.hid (HBAD.out w2 3 HB2.out (errN_form (.inr HY.out.symm)) (by decide))
    go_wp2
    go_ret
    exact FIN.out
  | true =>
    have hm1 : n1 ≤ 2147483647 := by rw [← HL.out]; exact may_few HY.out.symm
    -- the row ahead of it, if any
    have hway : ∃ t : Bool, (t = true → ∃ (a : Addr) (k u' : Nat), A = some a ∧ k + 1 = n ∧ (∀ W, Below w.heap.size w W → W.cell? (a.add (k * 2)) = some (.int .u32 (u' : Int))) ∧ errN (lastN pre) r = if u ≤ u' then 13 else 0) ∧ (t = false → n = 0 ∧ errN (lastN pre) r = 0) := by
      by_cases hn0 : n = 0
      · exact ⟨false, (fun h => by cases h), fun _ => ⟨hn0, by rw [HNE.out.2 hn0]; exact errN_first HZ.out HY.out.symm⟩⟩
      · refine ⟨true, fun _ => ?_, (fun h => by cases h)⟩
        obtain ⟨k, hk⟩ : ∃ k, k + 1 = n := ⟨n - 1, by omega⟩
        obtain ⟨a, p, r', ea, hr', hab, x0, -, -⟩ := (HCX.out.at HHL.out).at (k := k) (by rw [HCX.out.num]; omega)
        refine ⟨a, k, r'.1, ea, hk, fun W hW => (hW.cell (by rw [block_add]; exact hab)).trans x0, ?_⟩
        have h1 := lastN_at hr'
        rw [List.take_of_length_le (by rw [HCX.out.num]; omega)] at h1
        rw [h1, HU.out]
        exact errN_next HZ.out HY.out.symm
    obtain ⟨t, ht1, ht2⟩ := hway
    by_cases hbad : errN (lastN pre) r = 0
    rotate_left
    · cases t with
      | false => exact absurd (ht2 rfl).2 hbad
      | true =>
        obtain ⟨a, k, u', rfl, hk, hx, he⟩ := ht1 rfl
        have hle : u ≤ u' := Nat.le_of_not_lt fun h => hbad (by rw [he, if_neg (by omega)])
        rw [if_pos hle] at he
        have d3 : (u : Int) ≤ (u' : Int) := by omega
        have d1 : 0 < n := by omega
        have d2 : (n : Int) - 1 = (k : Int) := by omega
        have hkw : IntKind.i64.wrap ((n : Int) - 1) = (k : Int) := by rw [d2]; exact IntWalk.i64_in _ (by omega)
        have hk1 : k < n := by omega
        have x0 := hx w2 HB2.out
        have HBD := Lib.hid (fun W (hW : Below w2.heap.size w2 W) => HBAD.out W 13 (HB2.out.trans (hW.mono HB2.out.size)) he (by decide))
        clear hk he hx hle hbad ht1 ht2
        go_wp2_with fail
        go_quiet (fail)
        have FIN := Lib.hid (HBD.out _ (below_drewN _ nq))
        clear g1 q0 x0
        go_wp2
        go_ret
        exact FIN.out
    · have HZE := Lib.hid hbad
      have HPOST := Lib.hid (show ∀ (W W6 : World) (A5 : Option Addr) (c5 : Nat) (A7 : Option Addr) (d7 : Nat), Below w.heap.size w W → W.ownsRow w.heap.size 55 2 (.slice A5 n1 c5) n1 (arcCells r.2) →
          W6.ownsRow (H + 1) 51 2 (.slice A7 (n + 1) d7) (n + 1) (rvCells vs ++ [.int .u32 (u : Int), .slice A5 n1 c5]) → W.grownBy W6 (Value.slice A n c).ownBlock → ((Value.slice A7 (n + 1) d7).ownBlock = (Value.slice A n c).ownBlock ∨ (Value.slice A7 (n + 1) d7).ownBlock = some W.heap.size) →
          AddPost w H pre r (.returned (.int .i64 0)) (W6.setCell ⟨H, 0, none⟩ (.slice A7 (n + 1) d7)) from fun W W6 A5 c5 A7 d7 hW ho5 ho6 hg6 hn6 => by
        have hcol := HCX.out.past hW
        obtain ⟨h1, h2⟩ := hcol.push (p := (u, A5, n1, c5)) (r := r) (Nat.lt_succ_self _) (RwAt.mk (fun a e => by
            rcases Nat.eq_zero_or_pos n1 with h0 | h0
            · exact absurd (HL.out.trans h0) HZ.out
            · obtain ⟨g, cap, hf, hg, -⟩ := ho5.form h0
              injection hf with f1 f2 f3
              have e : A5 = some a := e
              rw [e] at f1
              injection f1 with f1
              rw [f1]
              have := HHL.out
              show H + 1 ≤ g
              omega) HU.out HFT.out.1 HL.out (own_bounds ho5) (Arcs.of_own ho5 HFT.out.2)) (fun _ a _ h => h) ⟨_, ho5⟩ (fun _ h => h.elim) ho6 hg6 hn6
        refine ⟨by rw [HZE.out], fun _ => ⟨_, _, _, _, h1⟩, ?_⟩
        exact (Out.of_below hW).trans (h2.more fun k _ hk => by rcases hk with rfl | hk; exact Nat.le_refl _; omega)
      )
      have HCC := Lib.hid (fun W hW => HCP.out W hW hm1)
      cases t with
      | false =>
        obtain ⟨hn0, -⟩ := ht2 rfl
        have d1 : ¬ 0 < n := by omega
        clear hn0 ht1 ht2 hbad
        go_wp2_with fail
        go_quiet (fail)
        generalize hw3 : w2.drewN nq = w3
        have HB3 := Lib.hid (HB2.out.trans ((show Below w2.heap.size w2 w3 by rw [← hw3]; exact below_drewN _ _).mono HB2.out.size))
        have HRB3 := Lib.hid (HRB2.out.past (show Below w2.heap.size w2 w3 by rw [← hw3]; exact below_drewN _ _))
        clear g1 q0 hw3
        go_wp2_with fail
        clear d1
        obtain ⟨i0, hi0, hz0, hz1, hz2⟩ := info_parts mrow_info
        have g3 := (HCX.out.past HB3.out).box.cell (i := 0) rfl
        have q0 := HRB3.out.cell (i := 0) rfl
        have q1 := HRB3.out.cell (i := 1) rfl
        have hgl3 : H < w3.heap.size := (HCX.out.past HB3.out).box.lt
        have HMX := Lib.hid (show n + 1 ≤ maxLen by unfold maxLen; omega)
        go_region_law (first
          | (rw [if_pos (by simp [Region.wanted])]
             go_simp
             go_at_call 57
             refine (HCC.out _ HB3.out.drew).mono ?_
             rintro e w5 ⟨A5, n5, c5, rfl, hl5, ho5, hb5⟩
             have hl5' : n5 = n1 := hl5.symm.trans HL.out
             subst hl5'
             have HB5 := Lib.hid (HB3.out.drew.trans (hb5.mono HB3.out.drew.size))
             have HO5 := Lib.hid (own_more ho5 HB3.out.drew.size)
             have HX5 := Lib.hid (HCX.out.past HB5.out)
             have g5 := HX5.out.box.cell (i := 0) rfl
             have f5 := HX5.out.box.frozen 0
             have hgl5 := HX5.out.box.lt
             clear hl5 ho5 hb5)
          | (refine step_append_own (w := w5.alloc (.cells #[.int .u32 (u : Int), .slice A5 n5 c5] 51)) rfl (.tmp 43) (.tmp 46) 29 rfl (H + 1) 51 i0 _ 2 32 Try.underlying29 hi0 hz0 hz1 hz2 rfl (by decide) (.slice A n c) n _ (by simp [Act.eval]) (HX5.out.own.alloc _) ⟨w5.heap.size, 0, none⟩ 1 1 [.int .u32 (u : Int), .slice A5 n5 c5] (by simp [Act.eval]) rfl (two_lit rfl) (fun x hx => by simp at hx; rcases hx with rfl | rfl <;> rfl) HMX.out (by omega) (by rw [World.size_alloc]; omega) ?_
             intro v6 w6 ho6 hg6 hn6
             obtain ⟨A7, d7, rfl, -⟩ := own_slice' ho6
             have hba : Below w.heap.size w (w5.alloc (.cells #[.int .u32 (u : Int), .slice A5 n5 c5] 51)) := HB5.out.alloc HB5.out.size _
             have HF6 := Lib.hid (HPOST.out _ w6 A5 c5 A7 d7 hba (own_below' HO5.out ((Below.refl _ _).alloc (Nat.le_refl _) _)) ho6 hg6 hn6)
             have hb6 := (HCX.out.past hba).box.grown hg6 HX5.out.off
             have c6 := hb6.cell (i := 0) rfl
             have f6 := hb6.frozen 0
             clear ho6 hg6 hn6 hba hb6))
        all_goals
          have f := HF6.out
          clear c6 f6 g5 f5
          go_wp2
          go_ret
          exact f
      | true =>
        obtain ⟨a, k, u', ea, hk, hx, he⟩ := ht1 rfl
        have HA := Lib.hid ea
        subst ea
        have hle : ¬ u ≤ u' := fun h => by rw [he, if_pos h] at hbad; exact absurd hbad (by decide)
        have d3 : ¬ (u : Int) ≤ (u' : Int) := by omega
        have d1 : 0 < n := by omega
        have d2 : (n : Int) - 1 = (k : Int) := by omega
        have hkw : IntKind.i64.wrap ((n : Int) - 1) = (k : Int) := by rw [d2]; exact IntWalk.i64_in _ (by omega)
        have hk1 : k < n := by omega
        have x0 := hx w2 HB2.out
        clear hk he hx hle hbad ht1 ht2
        go_wp2_with fail
        go_quiet (fail)
        generalize hw3 : w2.drewN nq = w3
        have HB3 := Lib.hid (HB2.out.trans ((show Below w2.heap.size w2 w3 by rw [← hw3]; exact below_drewN _ _).mono HB2.out.size))
        have HRB3 := Lib.hid (HRB2.out.past (show Below w2.heap.size w2 w3 by rw [← hw3]; exact below_drewN _ _))
        clear g1 q0 hw3 x0
        go_wp2_with fail
        clear d1 d2 d3 hkw hk1
        obtain ⟨i0, hi0, hz0, hz1, hz2⟩ := info_parts mrow_info
        have g3 := (HCX.out.past HB3.out).box.cell (i := 0) rfl
        have q0 := HRB3.out.cell (i := 0) rfl
        have q1 := HRB3.out.cell (i := 1) rfl
        have hgl3 : H < w3.heap.size := (HCX.out.past HB3.out).box.lt
        have HMX := Lib.hid (show n + 1 ≤ maxLen by unfold maxLen; omega)
        go_region_law (first
          | (rw [if_pos (by simp [Region.wanted])]
             go_simp
             go_at_call 57
             refine (HCC.out _ HB3.out.drew).mono ?_
             rintro e w5 ⟨A5, n5, c5, rfl, hl5, ho5, hb5⟩
             have hl5' : n5 = n1 := hl5.symm.trans HL.out
             subst hl5'
             have HB5 := Lib.hid (HB3.out.drew.trans (hb5.mono HB3.out.drew.size))
             have HO5 := Lib.hid (own_more ho5 HB3.out.drew.size)
             have HX5 := Lib.hid (HCX.out.past HB5.out)
             have g5 := HX5.out.box.cell (i := 0) rfl
             have f5 := HX5.out.box.frozen 0
             have hgl5 := HX5.out.box.lt
             clear hl5 ho5 hb5)
          | (refine step_append_own (w := w5.alloc (.cells #[.int .u32 (u : Int), .slice A5 n5 c5] 51)) rfl (.tmp 43) (.tmp 46) 29 rfl (H + 1) 51 i0 _ 2 32 Try.underlying29 hi0 hz0 hz1 hz2 rfl (by decide) (.slice (some a) n c) n _ (by simp [Act.eval]) (HX5.out.own.alloc _) ⟨w5.heap.size, 0, none⟩ 1 1 [.int .u32 (u : Int), .slice A5 n5 c5] (by simp [Act.eval]) rfl (two_lit rfl) (fun x hx => by simp at hx; rcases hx with rfl | rfl <;> rfl) HMX.out (by omega) (by rw [World.size_alloc]; omega) ?_
             intro v6 w6 ho6 hg6 hn6
             obtain ⟨A7, d7, rfl, -⟩ := own_slice' ho6
             have hba : Below w.heap.size w (w5.alloc (.cells #[.int .u32 (u : Int), .slice A5 n5 c5] 51)) := HB5.out.alloc HB5.out.size _
             have HF6 := Lib.hid (HPOST.out _ w6 A5 c5 A7 d7 hba (own_below' HO5.out ((Below.refl _ _).alloc (Nat.le_refl _) _)) ho6 hg6 hn6)
             have hb6 := (HCX.out.past hba).box.grown hg6 HX5.out.off
             have c6 := hb6.cell (i := 0) rfl
             have f6 := hb6.frozen 0
             clear ho6 hg6 hn6 hba hb6))
        all_goals
          have f := HF6.out
          clear c6 f6 g5 f5
          go_wp2
          go_ret
          exact f
end Go.Proofs.Yteaibgnelnblnaa
end
section
namespace Go.Proofs.Yteaibgnelnblnaa
open Go.RowKit Me Tx Ed Mg Va

/-- A graph of one's own, or an error. -/
def GfPost (w : World) (q : List RwD × Int) (e : Ending) (w' : World) : Prop :=
  ∃ g A n c, e = .returned (.tuple #[.pointer g, .int .i64 q.2]) ∧ (q.2 ≠ 0 → g = none) ∧ GrAt w' w.heap.size w'.heap.size g A n c q.1 ∧ Below w.heap.size w w'
def newQ (l : List RwD) : List RwD × Int := if newG none l = 0 then (l, 0) else ([], newG none l)
theorem gf_bad {w w' : World} {q : List RwD × Int} {z : Int} (hq : q = ([], z)) (hb : Below w.heap.size w w') : GfPost w q (.returned (.tuple #[.pointer none, .int .i64 z])) w' := by
  subst hq
  exact ⟨none, none, 0, 0, rfl, fun _ => rfl, GrAt.none _ _, hb⟩
theorem edges_few {l : List RwD} (h : GOk l) : l.length ≤ (edgesG l).length := by
  induction l with
  | nil => simp
  | cons r l ih =>
    have h1 := ih ⟨(List.pairwise_cons.1 h.srcs).2, fun s hs => h.full s (List.mem_cons_of_mem _ hs)⟩
    have h2 := (h.full r List.mem_cons_self).1
    have h3 : edgesG (r :: l) = edsR r ++ edgesG l := rfl
    rw [h3, List.length_append, List.length_cons, edsR_length]
    omega
theorem Col.graph {H : Nat} {l : List RwD} {w w' : World} {A : Option Addr} {n c : Nat} {vs : List RwV} (h : Col H l w' A n c vs) (hH : H = w.heap.size) (hok : GOk l) (hfew : (edgesG l).length ≤ 1000000) : GrAt w' w.heap.size w'.heap.size (some ⟨H, 0, none⟩) A n c l := by
  have hlt := h.box.lt
  have hr := h.at hlt
  obtain ⟨vs', g1, g2, g3⟩ := hr.ex
  refine ⟨.inr ⟨H, rfl, by omega, hlt, h.box⟩, ⟨⟨vs', g1, g2, fun i p r hp hr' => { g3 i p r hp hr' with low := fun a e => by have := (g3 i p r hp hr').low a e; omega }⟩, fun h0 a e => by have := hr.low h0 a e; omega⟩, h.num, own_bounds h.own, hok, ⟨?_, hfew⟩, Nat.le_refl _⟩
  have := edges_few hok
  have := h.num
  omega
set_option maxRecDepth 100000 in
set_option maxHeartbeats 2000000 in
theorem gnew_any {lo : Nat} {A : Option Addr} {n c : Nat} {l : List RwD} {w : World} (hl : l.length = n) (hn : n ≤ 1000) (hna : ∀ r ∈ l, r.2.length ≤ 4294967296) (hfew : (edgesG l).length ≤ 1000000) (hr : RowsAt w lo w.heap.size A l) :
    Calls Try.prog 26 #[.slice A n c] w (GfPost w (newQ l)) := by
  obtain ⟨H, hH⟩ : ∃ H, H = w.heap.size := ⟨_, rfl⟩
  obtain ⟨w0, hw0⟩ : ∃ w0, w0 = w.alloc (.cells #[.slice none 0 0] 69) := ⟨_, rfl⟩
  have hb0 : Below w.heap.size w w0 := by rw [hw0]; exact (Below.refl _ _).alloc (Nat.le_refl _) _
  have H0 := Lib.hid (show Col H [] w0 none 0 0 [] from
    ⟨by rw [hw0, hH]; exact Blk.new w [.slice none 0 0] _, World.ownsRow_nil _ _ _ _, (by simp [Value.ownBlock]), rfl, rfl, fun k e => (by cases e), fun i p r h => (by simp at h)⟩)
  have HL := Lib.hid hl
  have HR := Lib.hid hr
  have HNA := Lib.hid hna
  have HF := Lib.hid hfew
  have HHE := Lib.hid hH
  have HB0 := Lib.hid hb0
  have HW0 := Lib.hid hw0
  clear hl hr hna hfew hH hb0 hw0
  go_enter Try.func26, Try.ntmps26
  go_upto_region 2 with fail
  rw [← HW0.out, ← HHE.out]
  go_wp2
  go_loopw [12] (fun kv wr => ∃ k : Nat, kv = .int .i64 (k : Int) ∧ k ≤ n ∧ Hid (newG none l = newG (lastN (l.take k)) (l.drop k)) ∧ Hid (∃ A1 m1 c1 vs, Col H (l.take k) wr A1 m1 c1 vs) ∧ Hid (Below w.heap.size w wr)) (fun kv _ => n - (intOf kv).toNat)
  case atStart => exact ⟨0, rfl, Nat.zero_le _, Lib.hid rfl, Lib.hid ⟨_, _, _, _, H0.out⟩, HB0⟩
  case round =>
    obtain ⟨k, rfl, hk, HI, HC, HB⟩ := hrel
    by_cases hlt : k < n
    · obtain ⟨a, ⟨s0, P, n1, c2⟩, r, rfl, hr, hab, x0, x1, hat⟩ := HR.out.at (k := k) (by rw [HL.out]; exact hlt)
      dsimp only at x0 x1 hat
      have c0 := (HB.out.cell (by rw [block_add]; exact hab)).trans x0
      have c1' := (HB.out.cell (p := ⟨(a.add (k * 2)).block, (a.add (k * 2)).off + 1, none⟩) (by show (a.add (k * 2)).block < _; rw [block_add]; exact hab)).trans x1
      have hlt2 : (k : Int) < (n : Int) := by omega
      have HST := Lib.hid (HI.out.trans (newG_step hr))
      have HTK := Lib.hid (show l.take (k + 1) = l.take k ++ [r] from by rw [List.take_add_one, hr]; rfl)
      obtain ⟨w1, hw1⟩ : ∃ w1, w1 = wr.alloc (.cells #[.int .u32 (r.1 : Int), .slice P n1 c2] 51) := ⟨_, rfl⟩
      have hb1 : Below wr.heap.size wr w1 := by rw [hw1]; exact (Below.refl _ _).alloc (Nat.le_refl _) _
      have hbw := HB.out.trans (hb1.mono HB.out.size)
      have HAD := Lib.hid (show Calls Try.prog 44 #[.pointer (some ⟨H, 0, none⟩), .agg #[.int .u32 (r.1 : Int), .slice P n1 c2]] w1 (AddPost w1 H (l.take k) r) from by
        obtain ⟨A1, m1, c1, vs, hc⟩ := HC.out
        exact add_any (hc.past hb1) (by have := hc.num; rw [List.length_take] at this; omega) r P n1 c2 hat.len (by have h1 : r.2.length = n1 := hat.len; rw [← h1]; exact HNA.out r (List.mem_of_getElem? hr)) hat.fit ((hat.arcs.below hbw).more hbw.size))
      have HB1 := Lib.hid hbw
      have HW1 := Lib.hid hw1
      obtain ⟨z, hz⟩ : ∃ z, z = errN (lastN (l.take k)) r := ⟨_, rfl⟩
      rw [← hz] at HST
      have HZ := Lib.hid hz
      clear hr hat hab x0 x1 hw1 hb1 hbw hz HC
      go_wp2_with fail
      rw [← HW1.out]
      refine HAD.out.mono ?_
      rintro e w2 ⟨rfl, h1, h2⟩
      rw [← HZ.out] at h1 ⊢
      have HB2 := Lib.hid (show Below w.heap.size w w2 from HB1.out.trans (h2.below (fun k _ e => by have := HHE.out; omega) HB1.out.size))
      have H1 := Lib.hid h1
      clear h1 h2 c0 c1'
      by_cases hz0 : z = 0
      · have d0 : (z != 0) = false := by simp [hz0]
        have HI2 := Lib.hid (show newG none l = newG (lastN (l.take (k + 1))) (l.drop (k + 1)) from by rw [HST.out, if_pos hz0])
        have HC2 := Lib.hid (show ∃ A1 m1 c1 vs, Col H (l.take (k + 1)) w2 A1 m1 c1 vs from by rw [HTK.out]; exact H1.out hz0)
        clear hz0
        go_wp2
        go_roundw
        case rel => exact ⟨k + 1, by go_num, by omega, HI2, HC2, HB2⟩
        case measure => simp [intOf]; omega
      · have d0 : (z != 0) = true := by simp [hz0]
        have FIN := Lib.hid (show newQ l = ([], z) from by
          unfold newQ
          rw [HST.out, if_neg hz0, if_neg hz0])
        clear hz0
        go_wp2
        go_ret2
        exact gf_bad FIN.out HB2.out
    · have e : k = n := by omega
      subst e
      have HN := Lib.hid (show newG none l = 0 from by rw [HI.out, List.drop_of_length_le (by rw [HL.out]; exact Nat.le_refl _)]; rfl)
      have FIN := Lib.hid (show GfPost w (newQ l) (.returned (.tuple #[.pointer (some ⟨H, 0, none⟩), .int .i64 0])) wr from by
        obtain ⟨A1, m1, c1, vs, hc⟩ := HC.out
        rw [List.take_of_length_le (by rw [HL.out]; exact Nat.le_refl _)] at hc
        have hq : newQ l = (l, 0) := by unfold newQ; rw [if_pos HN.out]
        rw [hq]
        exact ⟨_, _, _, _, rfl, fun h => absurd rfl h, hc.graph HHE.out (newG_ok HN.out) HF.out, HB.out⟩)
      go_wp2
      go_ret2
      exact FIN.out
end Go.Proofs.Yteaibgnelnblnaa
end
section
namespace Go.Proofs.Yteaibgnelnblnaa
open Go.RowKit Me Tx Ed Mg Va

theorem nCells_length (l : List Nat) : (nCells l).length = l.length := by simp [nCells]
theorem nCells_append (l m : List Nat) : nCells (l ++ m) = nCells l ++ nCells m := by simp [nCells]
theorem nCells_one {l : List Nat} : ∀ v ∈ nCells l, v.oneCell' = true := by
  intro v hv
  unfold nCells at hv
  obtain ⟨a, -, rfl⟩ := List.mem_map.1 hv
  rfl
theorem num_info : (Try.prog.info? 23).map (fun i => (i.zero, i.size, i.bytes)) = some (some (.int .u32 0), 1, 4) := by kernel_rfl
/-- Numbers, in memory of their own. -/
def NewN (w : World) (l : List Nat) (e : Ending) (w' : World) : Prop :=
  ∃ A n c, e = .returned (.slice A n c) ∧ l.length = n ∧ w'.ownsRow w.heap.size 23 1 (.slice A n c) n (nCells l) ∧ Below w.heap.size w w'
end Go.Proofs.Yteaibgnelnblnaa
end
section
namespace Go.Proofs.Yteaibgnelnblnaa
open Go.RowKit Me Tx Ed Mg Va

/-- What is known of each slot where an edge's ends are put in. -/
def rvG (a : Addr) (m c k : Nat) (n1 c1 : Nat) (A1 : Option Addr) (B : Nat) (L : List Nat) (x : EdD) : Gw.Fact := fun t v W =>
  match t with
  | 3 | 14 => v = .slice A1 n1 c1
  | 4 | 15 | 21 => v = .slice (some a) m c
  | 5 | 16 | 22 => v = .int .i64 (k : Int)
  | 17 | 18 | 23 => v = .pointer (some (a.add (k * 3)))
  | 24 => v = .pointer (some ⟨(a.add (k * 3)).block, (a.add (k * 3)).off + 1, none⟩)
  | 19 => v = .int .u32 (x.src : Int)
  | 25 => v = .int .u32 (x.dst : Int)
  | 20 => ∃ A n c, v = .slice A n c ∧ (withV L x.src).length = n ∧ Cs W W.heap.size A (nCells (withV L x.src))
  | 26 => ∃ A n c, v = .slice A n c ∧ (withV (withV L x.src) x.dst).length = n ∧ Cs W W.heap.size A (nCells (withV (withV L x.src) x.dst)) ∧ W.ownsRow B 23 1 (.slice A n c) n (nCells (withV (withV L x.src) x.dst))
  | _ => True
variable {lo : Nat} {A : Option Addr} {n c : Nat} {l : List RwD} {w : World}
end Go.Proofs.Yteaibgnelnblnaa
end
section
namespace Go.Proofs.Yteaibgnelnblnaa
open Go.RowKit Me Tx Ed Mg Va

/-- The number at a place. -/
def nat_ (L : List Nat) (i : Nat) : Nat := L.getD i 0
theorem nat_get {L : List Nat} {i : Nat} (h : i < L.length) : L[i]? = some (nat_ L i) := by unfold nat_; rw [List.getD_eq_getElem?_getD, List.getElem?_eq_getElem h]; rfl
theorem nat_set {L : List Nat} {i j x : Nat} (h : i < L.length) : nat_ (L.set i x) j = if j = i then x else nat_ L j := by
  unfold nat_
  rw [List.getD_eq_getElem?_getD, List.getD_eq_getElem?_getD]
  by_cases e : j = i
  · subst e; rw [if_pos rfl, List.getElem?_set_self h]; rfl
  · rw [if_neg e, List.getElem?_set_ne (Ne.symm e)]
/-- Two places changed. -/
def swp (L : List Nat) (i j : Nat) : List Nat := (L.set i (nat_ L j)).set j (nat_ L i)
theorem swp_length (L : List Nat) (i j : Nat) : (swp L i j).length = L.length := by simp [swp]
theorem nat_swp {L : List Nat} {i j k : Nat} (hi : i < L.length) (hj : j < L.length) : nat_ (swp L i j) k = if k = j then nat_ L i else if k = i then nat_ L j else nat_ L k := by
  unfold swp
  rw [nat_set (by rw [List.length_set]; exact hj), nat_set hi]
theorem swp_perm {L : List Nat} {i j : Nat} (hi : i < L.length) (hj : j < L.length) : (swp L i j).Perm L := by
  have h := List.set_set_perm hi hj
  have e1 : L[i] = nat_ L i := by have := nat_get hi; rw [List.getElem?_eq_getElem hi] at this; injection this
  have e2 : L[j] = nat_ L j := by have := nat_get hj; rw [List.getElem?_eq_getElem hj] at this; injection this
  rw [e1, e2] at h
  exact h
/-- What changes lies between a and b, and is put into another order there. -/
structure Pm (a b : Nat) (L L' : List Nat) : Prop where
  len : L'.length = L.length
  perm : L'.Perm L
  out : ∀ i, i < a ∨ b ≤ i → nat_ L' i = nat_ L i
  sub : ∀ i, a ≤ i → i < b → ∃ j, a ≤ j ∧ j < b ∧ nat_ L' i = nat_ L j
theorem Pm.refl (a b : Nat) (L : List Nat) : Pm a b L L := ⟨rfl, List.Perm.refl _, fun _ _ => rfl, fun i h1 h2 => ⟨i, h1, h2, rfl⟩⟩
theorem Pm.trans {a b : Nat} {L M N : List Nat} (h : Pm a b L M) (k : Pm a b M N) : Pm a b L N :=
  ⟨k.len.trans h.len, k.perm.trans h.perm, fun i hi => (k.out i hi).trans (h.out i hi), fun i h1 h2 => by
    obtain ⟨j, j1, j2, e⟩ := k.sub i h1 h2
    obtain ⟨m, m1, m2, e'⟩ := h.sub j j1 j2
    exact ⟨m, m1, m2, e.trans e'⟩⟩
theorem Pm.more {a b a' b' : Nat} {L M : List Nat} (h : Pm a b L M) (ha : a' ≤ a) (hb : b ≤ b') : Pm a' b' L M :=
  ⟨h.len, h.perm, fun i hi => h.out i (by omega), fun i h1 h2 => by
    by_cases hi : a ≤ i ∧ i < b
    · obtain ⟨j, j1, j2, e⟩ := h.sub i hi.1 hi.2
      exact ⟨j, by omega, by omega, e⟩
    · exact ⟨i, h1, h2, h.out i (by omega)⟩⟩
theorem Pm.swp {a b i j : Nat} {L : List Nat} (hi : a ≤ i) (hib : i < b) (hj : a ≤ j) (hjb : j < b) (hb : b ≤ L.length) : Pm a b L (swp L i j) := by
  have hil : i < L.length := by omega
  have hjl : j < L.length := by omega
  refine ⟨swp_length _ _ _, swp_perm hil hjl, fun k hk => ?_, fun k h1 h2 => ?_⟩
  · rw [nat_swp hil hjl, if_neg (by omega), if_neg (by omega)]
  · rw [nat_swp hil hjl]
    by_cases e1 : k = j
    · rw [if_pos e1]; exact ⟨i, hi, hib, rfl⟩
    · rw [if_neg e1]
      by_cases e2 : k = i
      · rw [if_pos e2]; exact ⟨j, hj, hjb, rfl⟩
      · rw [if_neg e2]; exact ⟨k, h1, h2, rfl⟩
/-- What holds of all of a part goes on to hold. -/
theorem Pm.all {a b : Nat} {L M : List Nat} {p : Nat → Prop} (h : Pm a b L M) (hp : ∀ i, a ≤ i → i < b → p (nat_ L i)) : ∀ i, a ≤ i → i < b → p (nat_ M i) := fun i h1 h2 => by
  obtain ⟨j, j1, j2, e⟩ := h.sub i h1 h2
  rw [e]
  exact hp j j1 j2
/-- A part rises. -/
def So (a b : Nat) (L : List Nat) : Prop := ∀ i j, a ≤ i → i < j → j < b → nat_ L i ≤ nat_ L j
theorem So.few {a b : Nat} {L : List Nat} (h : b ≤ a + 1) : So a b L := fun i j h1 h2 h3 => by omega
/-- The rise of all but one that is on its way down: insertion. -/
structure Ins (a i j : Nat) (L : List Nat) : Prop where
  low : ∀ p q, a ≤ p → p < q → q ≤ i → p ≠ j → q ≠ j → nat_ L p ≤ nat_ L q
  up : ∀ q, j < q → q ≤ i → nat_ L j ≤ nat_ L q
theorem Ins.start {a i : Nat} {L : List Nat} (h : So a i L) : Ins a i i L := ⟨fun p q h1 h2 h3 h4 h5 => h p q h1 h2 (by omega), fun q h1 h2 => by omega⟩
theorem Ins.step {a i j : Nat} {L : List Nat} (h : Ins a i j L) (hj : a < j) (hji : j ≤ i) (hl : i < L.length) (hlt : nat_ L j < nat_ L (j - 1)) : Ins a i (j - 1) (swp L j (j - 1)) := by
  have h1 : j < L.length := by omega
  have h2 : j - 1 < L.length := by omega
  refine ⟨fun p q hp hpq hq hpj hqj => ?_, fun q hjq hq => ?_⟩
  · rw [nat_swp h1 h2, nat_swp h1 h2, if_neg hpj, if_neg hqj]
    by_cases e1 : p = j
    · rw [if_pos e1, if_neg (by omega)]
      exact h.low (j - 1) q (by omega) (by omega) hq (by omega) (by omega)
    · rw [if_neg e1]
      by_cases e2 : q = j
      · rw [if_pos e2]
        exact h.low p (j - 1) hp (by omega) (by omega) e1 (by omega)
      · rw [if_neg e2]
        exact h.low p q hp hpq hq e1 e2
  · rw [nat_swp h1 h2, nat_swp h1 h2, if_pos rfl, if_neg (by omega)]
    by_cases e2 : q = j
    · rw [if_pos e2]; omega
    · rw [if_neg e2]; exact h.up q (by omega) hq
theorem Ins.done {a i j : Nat} {L : List Nat} (h : Ins a i j L) (haj : a ≤ j) (hji : j ≤ i) (hlt : j = a ∨ nat_ L (j - 1) ≤ nat_ L j) : So a (i + 1) L := fun p q hp hpq hq => by
  by_cases e1 : p = j
  · subst e1; exact h.up q hpq (by omega)
  · by_cases e2 : q = j
    · subst e2
      rcases hlt with e | hlt
      · omega
      · by_cases e3 : p = q - 1
        · subst e3; exact hlt
        · exact Nat.le_trans (h.low p (q - 1) hp (by omega) (by omega) e1 (by omega)) hlt
    · exact h.low p q hp hpq (by omega) e1 e2
end Go.Proofs.Yteaibgnelnblnaa
end
