/- The number to which a draw is mapped; the draw that is mapped to a number. -/
import Derived.Test.YtoflbfkmkalgcaaPiE
namespace Go.Proofs.Ytoflbfkmkalgcaa
open Go.RowKit Me Va Al

/-- The difference modulo 2^64. -/
def dif (x d : Nat) : Nat := (x + 18446744073709551616 - d) % 18446744073709551616
theorem dif_wrap {x d : Nat} (h : d ≤ 18446744073709551616) : IntKind.u64.wrap ((x : Int) - (d : Int)) = (dif x d : Int) := by
  unfold dif
  have e : ((x + 18446744073709551616 - d : Nat) : Int) = (x : Int) - (d : Int) + 18446744073709551616 := by omega
  rw [Int.natCast_emod, e]
  simp only [IntKind.wrap, IntKind.bits, IntKind.signed]
  simp
theorem dif_le {x d : Nat} (h : d ≤ x) (hx : x < 18446744073709551616) : dif x d = x - d := by
  unfold dif
  rw [show x + 18446744073709551616 - d = (x - d) + 18446744073709551616 by omega, Nat.add_mod_right]
  exact Nat.mod_eq_of_lt (by omega)
theorem find_of {α : Type} {p : α → Bool} {L pre post : List α} {s : α} (h : L = pre ++ s :: post) (h1 : ∀ q ∈ pre, p q = false) (h2 : p s = true) : L.find? p = some s := by
  rw [h, List.find?_append, List.find?_eq_none.2 (fun q hq => by rw [h1 q hq]; simp), List.find?_cons_of_pos h2]
  rfl
set_option maxRecDepth 100000 in
theorem rclos_any (B x : Nat) (s : SgD) (w : World) (hb : Blk w B [.int .u64 (x : Int)]) (hd : s.draw ≤ 18446744073709551616) :
    Calls Try.prog 23 (encS s ++ #[.pointer (some ⟨B, 0, none⟩)]) w fun e w' => e = .returned (.int .u64 (dif x s.draw : Int)) ∧ Below w.heap.size w w' := by
  have c0 := hb.cell (i := 0) rfl
  have hlt := hb.lt
  have e1 := dif_wrap (x := x) hd
  obtain ⟨d, hd1⟩ : ∃ d, d = dif x s.draw := ⟨_, rfl⟩
  rw [← hd1] at e1 ⊢
  have HB := Lib.hid (show Below w.heap.size w (w.alloc (.cells #[.int .u64 (s.draw : Int), .int .u64 (s.num : Int), .int .u64 (s.size : Int)] 48)) from (Below.refl _ _).alloc (Nat.le_refl _) _)
  clear hb hd1
  show Calls Try.prog 23 #[.agg #[.int .u64 (s.draw : Int), .int .u64 (s.num : Int), .int .u64 (s.size : Int)], .pointer (some ⟨B, 0, none⟩)] w _
  go_enter Try.func23, Try.ntmps23
  go_wp2
  go_ret
  exact ⟨rfl, HB.out⟩
set_option maxRecDepth 100000 in
theorem bclos_any (B x : Nat) (s : SgD) (w : World) (hb : Blk w B [.int .u64 (x : Int)]) (hd : s.num ≤ 18446744073709551616) :
    Calls Try.prog 24 (encS s ++ #[.pointer (some ⟨B, 0, none⟩)]) w fun e w' => e = .returned (.int .u64 (dif x s.num : Int)) ∧ Below w.heap.size w w' := by
  have c0 := hb.cell (i := 0) rfl
  have hlt := hb.lt
  have e1 := dif_wrap (x := x) hd
  obtain ⟨d, hd1⟩ : ∃ d, d = dif x s.num := ⟨_, rfl⟩
  rw [← hd1] at e1 ⊢
  have HB := Lib.hid (show Below w.heap.size w (w.alloc (.cells #[.int .u64 (s.draw : Int), .int .u64 (s.num : Int), .int .u64 (s.size : Int)] 48)) from (Below.refl _ _).alloc (Nat.le_refl _) _)
  clear hb hd1
  show Calls Try.prog 24 #[.agg #[.int .u64 (s.draw : Int), .int .u64 (s.num : Int), .int .u64 (s.size : Int)], .pointer (some ⟨B, 0, none⟩)] w _
  go_enter Try.func24, Try.ntmps24
  go_wp2
  go_ret
  exact ⟨rfl, HB.out⟩
/-- Whether a draw is mapped by a table, and to what. -/
def rmB (l : List ArcD) (T : List CelD) (x : Nat) : Bool := mayT l T && decide (x < totalOf l)
def rmN (l : List ArcD) (T : List CelD) (x : Nat) : Nat := if rmB l T x then rmp l T x else 0
theorem cels_block {w : World} {B : Nat} {A : Option Addr} {T : List CelD} (h : Cels w B A T) (h0 : 0 < T.length) {a : Addr} (e : A = some a) : a.block < B := by
  obtain ⟨a', -, e', -, hb, -⟩ := h.at h0
  rw [e] at e'
  injection e' with e'
  rw [e']
  exact hb
set_option maxRecDepth 100000 in
set_option maxHeartbeats 2000000 in
theorem remap_no (L : Option Addr) (n c : Nat) (l : List ArcD) (A : Option Addr) (m cT : Nat) (T : List CelD) (x : Nat) (w : World) (hl : l.length = n) (hn : n ≤ 1000000) (hm : T.length = m) (hm2 : m ≤ 1000000) (hx : x < 18446744073709551616) (hr : Arcs w w.heap.size L l) (hc : Cels w w.heap.size A T) (hno : rmB l T x = false) :
    Calls Try.prog 9 #[.slice L n c, .slice A m cT, .int .u64 (x : Int)] w fun e w' => e = .returned (.tuple #[.int .u64 0, .bool false]) ∧ Below w.heap.size w w' := by
  obtain ⟨w1, hw1⟩ : ∃ w1, w1 = w.alloc (.cells #[.int .u64 (x : Int)] 24) := ⟨_, rfl⟩
  have hb1 : Below w.heap.size w w1 := by rw [hw1]; exact (Below.refl _ w).alloc (Nat.le_refl _) _
  have HAL := Lib.hid (alias_any L n c l A m cT T x w1 hl hn hm hm2 hx ((hr.below hb1).more hb1.size) ((hc.below hb1).more hb1.size))
  have HMY := Lib.hid (show ∀ W, Below w.heap.size w W → Calls Try.prog 20 #[.slice L n c, .slice A m cT] W (fun e W' => e = .returned (.bool (mayT l T)) ∧ Below W.heap.size W W') from fun W hW => mayT_any L n c l A m cT T W hl hn hm hm2 ((hr.below hW).more hW.size) ((hc.below hW).more hW.size))
  obtain ⟨sb, hsb⟩ : ∃ sb, sb = selB l T x := ⟨_, rfl⟩
  obtain ⟨sn, hsn⟩ : ∃ sn, sn = selN l T x := ⟨_, rfl⟩
  obtain ⟨my, hmy⟩ : ∃ my, my = mayT l T := ⟨_, rfl⟩
  have hmn : sb = true → my = false := by
    intro h
    rw [hsb] at h
    unfold selB at h
    rw [Bool.and_eq_true, Bool.and_eq_true] at h
    unfold rmB at hno
    rw [h.1.1, Bool.and_true] at hno
    rw [hmy]; exact hno
  rw [← hsb, ← hsn] at HAL
  rw [← hmy] at HMY
  have HB1 := Lib.hid hb1
  have c0 : w1.cell? ⟨w.heap.size, 0, none⟩ = some (.int .u64 (x : Int)) := by rw [hw1]; exact (Blk.new w [.int .u64 (x : Int)] _).cell (i := 0) rfl
  have s0 : w1.heap.size = w.heap.size + 1 := by rw [hw1]; simp
  have HW := Lib.hid hw1
  clear hw1 hb1 hl hr hc hm hsb hsn hmy hno
  cases sb with
  | false =>
    clear HMY hmn
    go_enter Try.func9, Try.ntmps9
    go_wp2_with fail
    rw [← HW.out]
    refine HAL.out.mono ?_
    rintro e w2 ⟨rfl, hb2⟩
    have FIN := Lib.hid (HB1.out.trans (hb2.mono HB1.out.size))
    clear hb2
    go_wp2
    go_ret2
    exact ⟨rfl, FIN.out⟩
  | true =>
    have hmf := hmn rfl
    subst hmf
    clear hmn
    go_enter Try.func9, Try.ntmps9
    go_wp2_with fail
    rw [← HW.out]
    refine HAL.out.mono ?_
    rintro e w2 ⟨rfl, hb2⟩
    have HB2 := Lib.hid (HB1.out.trans (hb2.mono HB1.out.size))
    clear hb2 HAL
    go_wp2_with fail
    refine (HMY.out w2 HB2.out).mono ?_
    rintro e w3 ⟨rfl, hb3⟩
    have FIN := Lib.hid (HB2.out.trans (hb3.mono HB2.out.size))
    clear hb3
    go_wp2
    go_ret2
    exact ⟨rfl, FIN.out⟩
set_option maxRecDepth 100000 in
set_option maxHeartbeats 2000000 in
theorem remap_yes (L : Option Addr) (n c : Nat) (l : List ArcD) (A : Option Addr) (m cT : Nat) (T : List CelD) (x : Nat) (w : World) (hl : l.length = n) (hn : n ≤ 1000000) (hnc : n ≤ c) (hm : T.length = m) (hr : Arcs w w.heap.size L l) (hc : Cels w w.heap.size A T) (hmy : mayT l T = true) (hx : x < totalOf l) :
    Calls Try.prog 9 #[.slice L n c, .slice A m cT, .int .u64 (x : Int)] w fun e w' => e = .returned (.tuple #[.int .u64 (rmp l T x : Int), .bool true]) ∧ Below w.heap.size w w' := by
  obtain ⟨hg, hlen, hok, hcnt⟩ := mayT_parts hmy
  have hmn : m = n := by rw [← hm, hlen, hl]
  subst hmn
  have htl := total_lt (l := l) (by omega)
  have hx64 : x < 18446744073709551616 := by omega
  obtain ⟨w1, hw1⟩ : ∃ w1, w1 = w.alloc (.cells #[.int .u64 (x : Int)] 24) := ⟨_, rfl⟩
  have hb1 : Below w.heap.size w w1 := by rw [hw1]; exact (Below.refl _ w).alloc (Nat.le_refl _) _
  have hbx : Blk w1 w.heap.size [.int .u64 (x : Int)] := by rw [hw1]; exact Blk.new w [.int .u64 (x : Int)] _
  have HAL := Lib.hid (alias_any L m c l A m cT T x w1 hl hn hm hn hx64 ((hr.below hb1).more hb1.size) ((hc.below hb1).more hb1.size))
  rw [(sel_may hmy hx).1, (sel_may hmy hx).2] at HAL
  have HMY := Lib.hid (show ∀ W, Below w.heap.size w W → Calls Try.prog 20 #[.slice L m c, .slice A m cT] W (fun e W' => e = .returned (.bool true) ∧ Below W.heap.size W W') from fun W hW => by
    have := mayT_any L m c l A m cT T W hl hn hm hn ((hr.below hW).more hW.size) ((hc.below hW).more hW.size)
    rwa [hmy] at this)
  have hxn : x < l.length * sumOf l := by rw [← total_good hg]; exact hx
  have hkn : toOf T (sumOf l) x < m := by rw [← hl]; exact toOf_lt (good_pos hg) hlen (fun c hc => (hok c hc).2) hxn
  obtain ⟨pre, s, post, hX, hpre, hs1, hs2, hs3⟩ := segs_draw hmy hxn
  have hbd := segs_bound (k := toOf T (sumOf l) x) hmy
  obtain ⟨k, hk⟩ : ∃ k, k = toOf T (sumOf l) x := ⟨_, rfl⟩
  rw [← hk] at hX hbd hkn HAL
  rw [total_good hg] at htl
  have hf : (segsOf l T k).find? (fun q => decide (dif x q.draw < q.size)) = some s := by
    refine find_of hX (fun q hq => ?_) ?_
    · have h := hpre q hq
      rw [dif_le h.1 hx64]
      simp; exact h.2
    · rw [dif_le hs1 hx64]
      simpa using hs2
  have hfs := dif_le hs1 hx64
  obtain ⟨y, hy⟩ : ∃ y, y = rmp l T x := ⟨_, rfl⟩
  obtain ⟨at', hat⟩ : ∃ a, a = dif x s.draw := ⟨_, rfl⟩
  rw [← hy] at hs3 ⊢
  have hsb := hbd s (by rw [hX]; simp)
  have hyi : (s.num : Int) + (at' : Int) = (y : Int) := by omega
  have hyl : y ≤ 4294967294000000 * 2 := by omega
  have h0 : 0 < T.length := by rw [hm]; omega
  have HSG := Lib.hid (show ∀ W, Below w.heap.size w W → _ from fun W hW => segments_any L m c l A m cT k W hl hn ((hr.below hW).more hW.size))
  have HGV := Lib.hid (fun (W : World) (H G : Nat) (hW : Below w.heap.size w W) (B1 : Blk W H [.slice L m c]) (B2 : Blk W (H + 1) [.slice A m cT]) (B3 : Blk W (H + 2) [.int .i64 (k : Int)]) (B4 : Blk W G [.int .u64 (sumOf l : Int)]) =>
    And.intro (seg_gives H G L m c l A cT T k W hl hn hnc hkn hmy ((hr.below hW).more hW.size) ((hc.below hW).more hW.size) B1 B2 B3 B4)
      (fun (q : Nat) (hq : MemS H G A q) => show q < W.heap.size by
        rcases hq with rfl | rfl | rfl | rfl | ⟨a, e, rfl⟩
        · exact B1.lt
        · exact B2.lt
        · exact B3.lt
        · exact B4.lt
        · exact Nat.lt_of_lt_of_le (cels_block hc h0 e) hW.size))
  have HFD := Lib.hid hf
  have HBX := Lib.hid hbx
  have HBD := Lib.hid hbd
  have HB1 := Lib.hid hb1
  have HAT := Lib.hid hat
  have HLT := Lib.hid htl
  have c0 := hbx.cell (i := 0) rfl
  have s0 : w1.heap.size = w.heap.size + 1 := by rw [hw1]; simp
  have HW := Lib.hid hw1
  clear hw1 hb1 hl hr hc hm hmy hg hlen hok hcnt hbx htl hX hpre hs1 hs2 hs3 hbd hf hfs hy hat hsb hx hxn hk hkn h0
  go_enter Try.func9, Try.ntmps9
  go_wp2_with fail
  rw [← HW.out]
  refine HAL.out.mono ?_
  rintro e w2 ⟨rfl, hb2⟩
  have HB2 := Lib.hid (HB1.out.trans (hb2.mono HB1.out.size))
  have HX2 := Lib.hid (HBX.out.past hb2)
  clear hb2 HAL c0
  go_wp2_with fail
  refine (HMY.out w2 HB2.out).mono ?_
  rintro e w3 ⟨rfl, hb3⟩
  have HB3 := Lib.hid (HB2.out.trans (hb3.mono HB2.out.size))
  have HX3 := Lib.hid (HX2.out.past hb3)
  clear hb3 HMY
  go_wp2_with fail
  refine (HSG.out w3 HB3.out).mono ?_
  rintro e w4 ⟨G, rfl, hG, hb4, B1, B2, B3, B4⟩
  have HB4 := Lib.hid (HB3.out.trans (hb4.mono HB3.out.size))
  have HX4 := Lib.hid (HX3.out.past hb4)
  have HGM := Lib.hid (HGV.out w4 _ _ HB4.out B1 B2 B3 B4)
  have HFI := Lib.hid (find_any (f := fun q => dif x q.draw) (Xs := segsOf l T k) (s0 := s) (pf := 23) (plb := #[.pointer (some ⟨w.heap.size, 0, none⟩)]) (enters_of Try.func36 (by kernel_rfl) rfl) (enters_of Try.func23 (by kernel_rfl) rfl) w4 HGM.out.1 HGM.out.2
    (fun W q hW hq => rclos_any w.heap.size x q W (HX4.out.past hW) (by have := HBD.out q hq; have := HLT.out; omega)) HFD.out)
  clear hb4 B1 B2 B3 B4 hG HSG HGV
  go_wp2_with fail
  refine HFI.out.mono ?_
  rintro e w5 ⟨rfl, hb5⟩
  have HB5 := Lib.hid (HB4.out.trans (hb5.mono HB4.out.size))
  dsimp only
  rw [← HAT.out]
  have FIN := Lib.hid (HB5.out.alloc HB5.out.size (.cells #[.int .u64 (s.draw : Int), .int .u64 (s.num : Int), .int .u64 (s.size : Int)] 48))
  clear hb5 HFI
  go_wp2
  go_ret2
  exact ⟨rfl, FIN.out⟩
set_option maxRecDepth 100000 in
set_option maxHeartbeats 2000000 in
theorem back_over (L : Option Addr) (n c : Nat) (l : List ArcD) (A : Option Addr) (m cT : Nat) (y : Nat) (w : World) (hl : l.length = n) (hn : n ≤ 1000000) (hx : y < 18446744073709551616) (hr : Arcs w w.heap.size L l) (hno : totalOf l ≤ y) :
    Calls Try.prog 10 #[.slice L n c, .slice A m cT, .int .u64 (y : Int)] w fun e w' => e = .returned (.tuple #[.int .u64 0, .bool false]) ∧ Below w.heap.size w w' := by
  obtain ⟨w1, hw1⟩ : ∃ w1, w1 = w.alloc (.cells #[.int .u64 (y : Int)] 24) := ⟨_, rfl⟩
  have hb1 : Below w.heap.size w w1 := by rw [hw1]; exact (Below.refl _ w).alloc (Nat.le_refl _) _
  have HAL := Lib.hid (ivl_no L n c y l w1 hl hn hno hx ((hr.below hb1).more hb1.size))
  have HB1 := Lib.hid hb1
  have c0 : w1.cell? ⟨w.heap.size, 0, none⟩ = some (.int .u64 (y : Int)) := by rw [hw1]; exact (Blk.new w [.int .u64 (y : Int)] _).cell (i := 0) rfl
  have s0 : w1.heap.size = w.heap.size + 1 := by rw [hw1]; simp
  have HW := Lib.hid hw1
  clear hw1 hb1 hl hr hno
  go_enter Try.func10, Try.ntmps10
  go_wp2_with fail
  rw [← HW.out]
  refine HAL.out.mono ?_
  rintro e w2 ⟨rfl, hb2⟩
  have FIN := Lib.hid (HB1.out.trans (hb2.mono HB1.out.size))
  clear hb2
  go_wp2
  go_ret2
  exact ⟨rfl, FIN.out⟩
set_option maxRecDepth 100000 in
set_option maxHeartbeats 2000000 in
theorem back_no (L : Option Addr) (n c : Nat) (l : List ArcD) (A : Option Addr) (m cT : Nat) (T : List CelD) (y : Nat) (w : World) (hl : l.length = n) (hn : n ≤ 1000000) (hm : T.length = m) (hm2 : m ≤ 1000000) (hx : y < 18446744073709551616) (hr : Arcs w w.heap.size L l) (hc : Cels w w.heap.size A T) (hno : rmB l T y = false) :
    Calls Try.prog 10 #[.slice L n c, .slice A m cT, .int .u64 (y : Int)] w fun e w' => e = .returned (.tuple #[.int .u64 0, .bool false]) ∧ Below w.heap.size w w' := by
  by_cases hyt : totalOf l ≤ y
  · exact back_over L n c l A m cT y w hl hn hx hr hyt
  have hmf : mayT l T = false := by
    unfold rmB at hno
    rw [decide_eq_true (show y < totalOf l by omega), Bool.and_true] at hno
    exact hno
  have hg : good l = true := good_of_total (show y < totalOf l by omega)
  obtain ⟨i, hi⟩ := ivl_of (l := l) (y := y) (by rw [← total_good hg]; omega)
  obtain ⟨w1, hw1⟩ : ∃ w1, w1 = w.alloc (.cells #[.int .u64 (y : Int)] 24) := ⟨_, rfl⟩
  have hb1 : Below w.heap.size w w1 := by rw [hw1]; exact (Below.refl _ w).alloc (Nat.le_refl _) _
  have HAL := Lib.hid (ivl_yes L n c y i l w1 hl hn hg hi ((hr.below hb1).more hb1.size))
  have HMY := Lib.hid (show ∀ W, Below w.heap.size w W → Calls Try.prog 20 #[.slice L n c, .slice A m cT] W (fun e W' => e = .returned (.bool false) ∧ Below W.heap.size W W') from fun W hW => by
    have := mayT_any L n c l A m cT T W hl hn hm hm2 ((hr.below hW).more hW.size) ((hc.below hW).more hW.size)
    rwa [hmf] at this)
  have HB1 := Lib.hid hb1
  have c0 : w1.cell? ⟨w.heap.size, 0, none⟩ = some (.int .u64 (y : Int)) := by rw [hw1]; exact (Blk.new w [.int .u64 (y : Int)] _).cell (i := 0) rfl
  have s0 : w1.heap.size = w.heap.size + 1 := by rw [hw1]; simp
  have HW := Lib.hid hw1
  clear hw1 hb1 hl hr hc hm hmf hi hg hno hyt
  go_enter Try.func10, Try.ntmps10
  go_wp2_with fail
  rw [← HW.out]
  refine HAL.out.mono ?_
  rintro e w2 ⟨rfl, hb2⟩
  have HB2 := Lib.hid (HB1.out.trans (hb2.mono HB1.out.size))
  clear hb2 HAL
  go_wp2_with fail
  refine (HMY.out w2 HB2.out).mono ?_
  rintro e w3 ⟨rfl, hb3⟩
  have FIN := Lib.hid (HB2.out.trans (hb3.mono HB2.out.size))
  clear hb3
  go_wp2
  go_ret2
  exact ⟨rfl, FIN.out⟩
set_option maxRecDepth 100000 in
set_option maxHeartbeats 2000000 in
theorem back_yes (L : Option Addr) (n c : Nat) (l : List ArcD) (A : Option Addr) (m cT : Nat) (T : List CelD) (x y : Nat) (w : World) (hl : l.length = n) (hn : n ≤ 1000000) (hnc : n ≤ c) (hm : T.length = m) (hr : Arcs w w.heap.size L l) (hc : Cels w w.heap.size A T) (hmy : mayT l T = true) (hx : x < totalOf l) (hxy : y = rmp l T x) :
    Calls Try.prog 10 #[.slice L n c, .slice A m cT, .int .u64 (y : Int)] w fun e w' => e = .returned (.tuple #[.int .u64 (x : Int), .bool true]) ∧ Below w.heap.size w w' := by
  obtain ⟨hg, hlen, hok, hcnt⟩ := mayT_parts hmy
  have hmn : m = n := by rw [← hm, hlen, hl]
  subst hmn
  have htl := total_lt (l := l) (by omega)
  have hxn : x < l.length * sumOf l := by rw [← total_good hg]; exact hx
  have hiv := rmp_ivl hmy hxn
  rw [← hxy] at hiv
  have hyl2 := hiv.below
  rw [total_good hg] at htl
  have hx64 : y < 18446744073709551616 := by omega
  have hkn : toOf T (sumOf l) x < m := by rw [← hl]; exact hiv.lt
  obtain ⟨pre, s, post, hX, hpre, hs1, hs2, hs4, hs5, hs6⟩ := segs_num hmy hiv
  have hs3 : s.draw + (y - s.num) = x := rmp_one hmy hs4 hxn (by rw [hs6, hxy])
  have hbd := segs_bound (k := toOf T (sumOf l) x) hmy
  obtain ⟨w1, hw1⟩ : ∃ w1, w1 = w.alloc (.cells #[.int .u64 (y : Int)] 24) := ⟨_, rfl⟩
  have hb1 : Below w.heap.size w w1 := by rw [hw1]; exact (Below.refl _ w).alloc (Nat.le_refl _) _
  have hbx : Blk w1 w.heap.size [.int .u64 (y : Int)] := by rw [hw1]; exact Blk.new w [.int .u64 (y : Int)] _
  have HAL := Lib.hid (ivl_yes L m c y _ l w1 hl hn hg hiv ((hr.below hb1).more hb1.size))
  have HMY := Lib.hid (show ∀ W, Below w.heap.size w W → Calls Try.prog 20 #[.slice L m c, .slice A m cT] W (fun e W' => e = .returned (.bool true) ∧ Below W.heap.size W W') from fun W hW => by
    have := mayT_any L m c l A m cT T W hl hn hm hn ((hr.below hW).more hW.size) ((hc.below hW).more hW.size)
    rwa [hmy] at this)
  obtain ⟨k, hk⟩ : ∃ k, k = toOf T (sumOf l) x := ⟨_, rfl⟩
  rw [← hk] at hX hbd hkn HAL
  have hf : (segsOf l T k).find? (fun q => decide (dif y q.num < q.size)) = some s := by
    refine find_of hX (fun q hq => ?_) ?_
    · have h := hpre q hq
      rw [dif_le h.1 hx64]
      simp; exact h.2
    · rw [dif_le hs1 hx64]
      simpa using hs2
  have hfs := dif_le hs1 hx64
  obtain ⟨at', hat⟩ : ∃ a, a = dif y s.num := ⟨_, rfl⟩
  have hsb := hbd s (by rw [hX]; simp)
  have hyi : (s.draw : Int) + (at' : Int) = (x : Int) := by omega
  have hyl : x ≤ 2147483647000000 := by omega
  have h0 : 0 < T.length := by rw [hm]; omega
  have HSG := Lib.hid (show ∀ W, Below w.heap.size w W → _ from fun W hW => segments_any L m c l A m cT k W hl hn ((hr.below hW).more hW.size))
  have HGV := Lib.hid (fun (W : World) (H G : Nat) (hW : Below w.heap.size w W) (B1 : Blk W H [.slice L m c]) (B2 : Blk W (H + 1) [.slice A m cT]) (B3 : Blk W (H + 2) [.int .i64 (k : Int)]) (B4 : Blk W G [.int .u64 (sumOf l : Int)]) =>
    And.intro (seg_gives H G L m c l A cT T k W hl hn hnc hkn hmy ((hr.below hW).more hW.size) ((hc.below hW).more hW.size) B1 B2 B3 B4)
      (fun (q : Nat) (hq : MemS H G A q) => show q < W.heap.size by
        rcases hq with rfl | rfl | rfl | rfl | ⟨a, e, rfl⟩
        · exact B1.lt
        · exact B2.lt
        · exact B3.lt
        · exact B4.lt
        · exact Nat.lt_of_lt_of_le (cels_block hc h0 e) hW.size))
  have HFD := Lib.hid hf
  have HBX := Lib.hid hbx
  have HBD := Lib.hid hbd
  have HB1 := Lib.hid hb1
  have HAT := Lib.hid hat
  have HLT := Lib.hid htl
  have c0 := hbx.cell (i := 0) rfl
  have s0 : w1.heap.size = w.heap.size + 1 := by rw [hw1]; simp
  have HW := Lib.hid hw1
  clear hw1 hb1 hl hr hc hm hmy hg hlen hok hcnt hbx htl hX hpre hs1 hs2 hs3 hs4 hs5 hs6 hbd hf hfs hxy hat hsb hx hxn hk hkn h0 hiv hyl2
  go_enter Try.func10, Try.ntmps10
  go_wp2_with fail
  rw [← HW.out]
  refine HAL.out.mono ?_
  rintro e w2 ⟨rfl, hb2⟩
  have HB2 := Lib.hid (HB1.out.trans (hb2.mono HB1.out.size))
  have HX2 := Lib.hid (HBX.out.past hb2)
  clear hb2 HAL c0
  go_wp2_with fail
  refine (HMY.out w2 HB2.out).mono ?_
  rintro e w3 ⟨rfl, hb3⟩
  have HB3 := Lib.hid (HB2.out.trans (hb3.mono HB2.out.size))
  have HX3 := Lib.hid (HX2.out.past hb3)
  clear hb3 HMY
  go_wp2_with fail
  refine (HSG.out w3 HB3.out).mono ?_
  rintro e w4 ⟨G, rfl, hG, hb4, B1, B2, B3, B4⟩
  have HB4 := Lib.hid (HB3.out.trans (hb4.mono HB3.out.size))
  have HX4 := Lib.hid (HX3.out.past hb4)
  have HGM := Lib.hid (HGV.out w4 _ _ HB4.out B1 B2 B3 B4)
  have HFI := Lib.hid (find_any (f := fun q => dif y q.num) (Xs := segsOf l T k) (s0 := s) (pf := 24) (plb := #[.pointer (some ⟨w.heap.size, 0, none⟩)]) (enters_of Try.func36 (by kernel_rfl) rfl) (enters_of Try.func24 (by kernel_rfl) rfl) w4 HGM.out.1 HGM.out.2
    (fun W q hW hq => bclos_any w.heap.size y q W (HX4.out.past hW) (by have := HBD.out q hq; have := HLT.out; omega)) HFD.out)
  clear hb4 B1 B2 B3 B4 hG HSG HGV
  go_wp2_with fail
  refine HFI.out.mono ?_
  rintro e w5 ⟨rfl, hb5⟩
  have HB5 := Lib.hid (HB4.out.trans (hb5.mono HB4.out.size))
  dsimp only
  rw [← HAT.out]
  have FIN := Lib.hid (HB5.out.alloc HB5.out.size (.cells #[.int .u64 (s.draw : Int), .int .u64 (s.num : Int), .int .u64 (s.size : Int)] 48))
  clear hb5 HFI
  go_wp2
  go_ret2
  exact ⟨rfl, FIN.out⟩
end Go.Proofs.Ytoflbfkmkalgcaa
