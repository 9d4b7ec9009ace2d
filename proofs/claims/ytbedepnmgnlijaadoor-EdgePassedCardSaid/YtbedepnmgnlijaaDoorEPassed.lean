/- EdgePassed: notes and blank lines among edges' lines change nothing but the numbers of lines. -/
import Derived.Test.YtbedepnmgnlijaaDoorEdV
import Derived.Test.YtbedepnmgnlijaaDoorEdI
import Derived.Test.YtbedepnmgnlijaaDoorTxO
import Derived.Lib.SlBytesConst
namespace Go.Proofs.YtbedepnmgnlijaaDoor
open Go.RowKit Me Tx Ed Go.Shelf Go.Lib Go.ChangeShapes

/-- A note's lines, an edge's line, if there is one. -/
def Ed.noteO : Option (List UInt8) → List (List UInt8)
  | none => []
  | some x => noteL x
def Ed.edgeO : Option EdD → List (List UInt8)
  | none => []
  | some e => edgeL e
theorem mix_take : ∀ (es : List EdD) (ns : List (List UInt8)) (i : Nat), (i < es.length ∨ i < ns.length) → mixL (es.take (i + 1)) (ns.take (i + 1)) = mixL (es.take i) (ns.take i) ++ (noteO ns[i]? ++ edgeO es[i]?)
  | [], [], i, h => by simp at h
  | [], x :: ns, 0, _ => by simp [mixL, noteO, edgeO]
  | [], x :: ns, i + 1, h => by
    have := mix_take [] ns i (.inr (by simpa using h))
    simp only [List.take_nil, List.take_succ_cons, mixL, List.getElem?_cons_succ, List.getElem?_nil] at this ⊢
    rw [this, List.append_assoc]
  | e :: es, [], 0, _ => by simp [mixL, noteO, edgeO]
  | e :: es, [], i + 1, h => by
    have := mix_take es [] i (.inl (by simpa using h))
    simp only [List.take_nil, List.take_succ_cons, mixL, List.getElem?_cons_succ, List.getElem?_nil] at this ⊢
    rw [this, List.append_assoc]
  | e :: es, x :: ns, 0, _ => by simp [mixL, noteO, edgeO]
  | e :: es, x :: ns, i + 1, h => by
    have := mix_take es ns i (by simpa using h)
    simp only [List.take_succ_cons, mixL, List.getElem?_cons_succ] at this ⊢
    rw [this, List.append_assoc, List.append_assoc]
theorem join_note (x : List UInt8) : joinL (noteL x) = ([32, 9, 35] ++ strip x) ++ [10, 32, 10] := by
  show (32 :: 9 :: 35 :: strip x) ++ 10 :: ([32] ++ 10 :: []) = _
  simp
theorem join_edge (e : EdD) : joinL (edgeL e) = 9 :: 32 :: (lineS e ++ [10]) := by
  show (9 :: 32 :: lineS e) ++ 10 :: [] = _
  simp
theorem strip_take {l : List UInt8} {k : Nat} {u : UInt8} (h : l[k]? = some u) : strip (l.take (k + 1)) = strip (l.take k) ++ (if u = 10 then [] else [u]) := by
  rw [take_snoc h, strip_append]
  congr 1
theorem mixT_length {es : List EdD} {ns : List (List UInt8)} {i : Nat} (hf : ∀ e ∈ es, Fits e) (hs : ∀ x ∈ ns.take i, x.length ≤ 100) : (joinL (mixL (es.take i) (ns.take i))).length ≤ 312 * i := by
  have h1 := joinL_length (mixL (es.take i) (ns.take i)) 103 (mixL_short _ _ (fun e he => hf e (List.mem_of_mem_take he)) hs)
  have h2 := mixL_count (es.take i) (ns.take i)
  rw [List.length_take, List.length_take] at h2
  have h3 : (mixL (es.take i) (ns.take i)).length ≤ 3 * i := by omega
  refine Nat.le_trans h1 ?_
  omega
theorem add_small' {x : Nat} (hx : x ≤ 100000) : IntKind.i64.wrap ((x : Int) + 1) = (x : Int) + 1 ∧ wrap64 ((x : Int) + 1) = (x : Int) + 1 := ⟨IntWalk.i64_in _ (by omega), by unfold wrap64; omega⟩
/-- What stands between the rounds. -/
structure PaI (w wr : World) (v : Value) (i f : Nat) (es : List EdD) (ns : List (List UInt8)) : Prop where
  p : PrI w wr v (joinL (mixL (es.take i) (ns.take i)))
  c : f = (mixL (es.take i) (ns.take i)).length
  s : ∀ x ∈ ns.take i, x.length ≤ 100
/-- A tab and a blank ahead of a text. -/
theorem tab_line (y : List UInt8) (hy : y.length ≤ 1000) : ∃ s s2 : ByteArray, s.data.toList = y ∧ s2.data.toList = 9 :: 32 :: y ∧ ∀ W : World, (Op.stringOp .add ⟨#[9, 32]⟩ s).run Tryd.prog W = .ok (.string s2) W :=
  ⟨⟨y.toArray⟩, ⟨([9, 32] ++ y).toArray⟩, rfl, rfl, fun W => run_string_add_lists W [9, 32] y (by decide) (by omega)⟩
theorem PrI.app {w wr w' : World} {v v' : Value} {l m : List UInt8} {n k : Nat} (h : PrI w wr v l) (hn : n = l.length) (hk : m.length = k) (ho : w'.ownsRow w.heap.size 5 1 v' (n + k) (cellsOf (l ++ m))) (hg : wr.grownBy w' v.ownBlock) : PrI w w' v' (l ++ m) := by
  obtain ⟨n0, -, ho0⟩ := h.o
  exact ⟨⟨n + k, by rw [List.length_append, hk, hn], ho⟩, h.b.grown hg h.b.size (fun g e => (ho0.lt g e).1)⟩
theorem PrI.past {w wr w' : World} {v : Value} {l : List UInt8} (h : PrI w wr v l) (hb : Below wr.heap.size wr w') : PrI w w' v l := by
  obtain ⟨n0, h0, ho0⟩ := h.o
  exact ⟨⟨n0, h0, own_below' ho0 hb⟩, h.b.trans (hb.mono h.b.size)⟩
theorem PrI.open {w wr : World} {v : Value} {l : List UInt8} (h : PrI w wr v l) : ∃ A n c, v = .slice A n c ∧ n = l.length ∧ wr.ownsRow w.heap.size 5 1 (.slice A n c) n (cellsOf l) := by
  obtain ⟨n0, h0, ho0⟩ := h.o
  obtain ⟨A, c, hv, -⟩ := own_slice' ho0
  subst hv
  exact ⟨A, n0, c, rfl, h0, ho0⟩

set_option maxRecDepth 100000 in
set_option maxHeartbeats 4000000 in
theorem edgePassed_walk (A : Option Addr) (n c : Nat) (es : List EdD) (hl : es.length = n) (hnc : n ≤ c) (hc : c ≤ 9223372036854775807) (B : Option Addr) (m d : Nat) (ns : List (List UInt8)) (hm : ns.length = m) (hmd : m ≤ d) (hd : d ≤ 9223372036854775807) (bad : Bool) (w : World) (hes : Eds w w.heap.size A es) (hns : Cs w w.heap.size B (ns.map sv)) (hL : laidMetH Tryd.prog laidL w) :
    Calls Tryd.prog 6 #[.slice A n c, .slice B m d, .bool bad] w fun e w' => e = .returned (.bool true) ∧ Below w.heap.size w w' := by
  obtain ⟨i0, hi0, hz0, hz1, hz2⟩ := info_parts u8_info
  have HE := Lib.hid (laid_evs hL)
  have HL := Lib.hid hl
  have HM := Lib.hid hm
  have HES := Lib.hid hes
  have HNS := Lib.hid hns
  clear hL hl hm hes hns hc hd hnc hmd
  by_cases h : 100 < n ∨ 100 < m
  · have hq : (100 : Int) < (n : Int) ∨ (¬ (100 : Int) < (n : Int) ∧ (100 : Int) < (m : Int)) := by omega
    clear h
    go_enter Tryd.func6, Tryd.ntmps6
    rcases hq with h1 | ⟨h1, h2⟩
    all_goals
      go_wp2_with fail
      refine (awake_any w HE.out).mono ?_
      rintro e w1 ⟨rfl, hb1⟩
      have HB1 := Lib.hid hb1
      clear hb1
      go_wp2
      go_ret
      exact ⟨rfl, HB1.out⟩
  · have h1 : ¬ (100 : Int) < (n : Int) := by omega
    have h2 : ¬ (100 : Int) < (m : Int) := by omega
    have hn100 : n ≤ 100 := by omega
    have hm100 : m ≤ 100 := by omega
    clear h
    have kc := fun (w : World) (C : Array Value) (n c : Nat) => Lib.run_convert_bytes_const (P := Tryd.prog) w 32 5 C n c Tryd.underlying32 Tryd.underlying5
    obtain ⟨mb, hmb⟩ : ∃ mb, mb = es.all mayB := ⟨_, rfl⟩
    have HMB := Lib.hid hmb
    clear hmb
    go_enter Tryd.func6, Tryd.ntmps6
    go_wp2_with fail
    refine (emay_any A n c es w HL.out (by omega) HES.out).mono ?_
    rw [← HMB.out]
    rintro e w1 ⟨rfl, hb1⟩
    have HB1 := Lib.hid hb1
    have HI0 := Lib.hid (show PaI w (w1.alloc (.cells #[] 5)) (.slice (some ⟨w1.heap.size, 0, none⟩) 0 0) 0 0 es ns from
      ⟨⟨⟨0, by simp [mixL, joinL], (by have := own_empty w1 w.heap.size 5 hb1.size; simpa [mixL, joinL] using this)⟩, hb1.alloc hb1.size _⟩, by simp [mixL], fun x hx => by simp at hx⟩)
    clear hb1
    cases hmb : mb with
    | false =>
      clear HI0
      go_wp2_with fail
      refine (awake_any w1 (HE.out.below HB1.out)).mono ?_
      rintro e w2 ⟨rfl, hb2⟩
      have HB2 := Lib.hid (HB1.out.trans (hb2.mono HB1.out.size))
      clear hb2
      go_wp2
      go_ret
      exact ⟨rfl, HB2.out⟩
    | true =>
      have HMT := Lib.hid (show es.all mayB = true by rw [← HMB.out, hmb])
      clear hmb HMB
      go_wp2
      go_loopw [7, 8, 9] (fun v lf i wr => ∃ k f : Nat, lf = .int .i64 (f : Int) ∧ i = .int .i64 (k : Int) ∧ k ≤ 100 ∧ (k ≤ n ∨ k ≤ m) ∧ f ≤ 3 * k ∧ Hid (PaI w wr v k f es ns)) (fun _ _ i _ => (101 - intOf i).toNat)
      case atStart => exact ⟨0, 0, rfl, rfl, by omega, by omega, by omega, HI0⟩
      case round =>
        clear HI0 HB1
        obtain ⟨i, f, rfl, rfl, hi, hin, hf, HI⟩ := hrel
        obtain ⟨A1, p, c1, hv, hp, ho⟩ := HI.out.p.open
        subst hv
        obtain ⟨t, ht⟩ : ∃ t, t = joinL (mixL (es.take i) (ns.take i)) := ⟨_, rfl⟩
        have hpl : p ≤ 31200 := by
          have := mixT_length (i := i) HES.out.2 HI.out.s
          rw [← hp] at this
          omega
        have HP := Lib.hid (show PrI w wr (.slice A1 p c1) t by rw [ht]; exact HI.out.p)
        have HT := Lib.hid ht
        have HPL := Lib.hid (show p = t.length by rw [ht]; exact hp)
        have HC := Lib.hid HI.out.c
        have HSS := Lib.hid HI.out.s
        clear ho hp ht HI
        by_cases him : i < m
        · have hi2 : (i : Int) < (m : Int) := by omega
          obtain ⟨x, hx⟩ : ∃ x, ns[i]? = some x := ⟨_, List.getElem?_eq_getElem (by rw [HM.out]; exact him)⟩
          have HX := Lib.hid hx
          obtain ⟨s, hs⟩ : ∃ s : ByteArray, s.data.toList = x := ⟨⟨x.toArray⟩, rfl⟩
          have HS := Lib.hid hs
          obtain ⟨q, hq⟩ : ∃ q, s.size = q := ⟨_, rfl⟩
          have HQ := Lib.hid (show x.length = q by rw [← hs, len_eq, hq])
          have HNC := Lib.hid (fun (W : World) (hb : Below w.heap.size w W) => (show ∃ a : Addr, B = some a ∧ W.cell? (a.add i) = some (.string s) by
            obtain ⟨a, e, -, qq⟩ := (HNS.out.below hb) (by rw [List.length_map, HM.out]; omega)
            refine ⟨a, e, ?_⟩
            rw [← sv_data s, hs]
            exact qq i _ (by rw [List.getElem?_map, hx]; rfl)))
          obtain ⟨a, hBa, y0⟩ := HNC.out wr HP.out.b
          subst hBa
          clear hx hs
          by_cases hq100 : 100 < q
          · have hq1 : (100 : Int) < (q : Int) := by omega
            have HB := Lib.hid HP.out.b
            have hw : (i : Int) < (n : Int) ∨ (¬ (i : Int) < (n : Int) ∧ (i : Int) < (m : Int)) := by omega
            have hi2 : (i : Int) < (m : Int) := by omega
            clear HP HPL HC HSS HT hq100
            rcases hw with h3 | ⟨h3, h4⟩
            all_goals
              go_wp2_with fail
              refine (awake_any wr (HE.out.below HB.out)).mono ?_
              rintro e w2 ⟨rfl, hb2⟩
              have HB2 := Lib.hid (HB.out.trans (hb2.mono HB.out.size))
              clear hb2
              go_wp2
              go_ret
              exact ⟨rfl, HB2.out⟩
          · have hq1 : ¬ (100 : Int) < (q : Int) := by omega
            have HQ100 := Lib.hid hq100
            by_cases hin2 : i < n
            · have h3 : (i : Int) < (n : Int) := by omega
              have hbs := HP.out.b.size
              obtain ⟨p0, hp0⟩ : ∃ p0, p0 = p := ⟨_, rfl⟩
              have HOA := Lib.hid (show (wr.alloc (.cells #[.int .u8 32, .int .u8 9, .int .u8 35] 5 (3, 4))).ownsRow w.heap.size 5 1 (.slice A1 p c1) p (cellsOf t) by
                obtain ⟨A9, p9, c9, hv9, hp9, ho9⟩ := HP.out.open
                injection hv9 with e1 e2 e3
                subst e1 e2 e3
                exact ho9.alloc _)
              have HPA := Lib.hid (HP.out.past ((Below.refl _ wr).alloc (Nat.le_refl _) (.cells #[.int .u8 32, .int .u8 9, .int .u8 35] 5 (3, 4))))
              have hm64 : p + 3 ≤ 140737488355328 := by omega
              have hbase : w.heap.size ≤ (wr.alloc (.cells #[.int .u8 32, .int .u8 9, .int .u8 35] 5 (3, 4))).heap.size := by simp; omega
              clear hp0 hbs HP
              go_wp2_with (at_builtin
                           go_loud (refine wpList_app rfl (.tmp 52) (.tmp 54) 32 rfl w.heap.size 5 i0 _ Tryd.underlying32 hi0 hz0 hz1 hz2 rfl (.slice A1 p c1) p t rfl HOA.out (wr.heap.size + 1) (some ⟨wr.heap.size, 0, none⟩) 3 3 [32, 9, 35] rfl rfl (rd_mark wr _ _ _ [32, 9, 35] rfl) hm64 hbase ?_)
                           intro v3 w3 hown3 hg3 hat3
                           refine Classical.byContradiction fun hcontra => ?_)
              have HP3 := Lib.hid (show PrI w w3 v3 (t ++ [32, 9, 35] ++ strip (x.take 0)) by
                have := HPA.out.app HPL.out (show ([32, 9, 35] : List UInt8).length = 3 from rfl) hown3 hg3
                simpa [strip] using this)
              clear hown3 hg3 hat3 HOA HPA hm64 hbase
              apply hcontra
              clear hcontra y0
              go_wp2
              go_loopw [7, 10] (fun v j wx => ∃ k : Nat, j = .int .i64 (k : Int) ∧ k ≤ q ∧ Hid (PrI w wx v (t ++ [32, 9, 35] ++ strip (x.take k)))) (fun _ j _ => (q - intOf j).toNat)
              case atStart => exact ⟨0, rfl, Nat.zero_le _, HP3⟩
              case round =>
                clear HP3
                obtain ⟨k, rfl, hk, HP⟩ := hrel
                obtain ⟨A4, p4, c4, hv4, hp4, ho4⟩ := HP.out.open
                subst hv4
                obtain ⟨a', hBa, y0⟩ := HNC.out wr HP.out.b
                injection hBa with hBa
                subst hBa
                by_cases hkq : k < q
                · obtain ⟨u, hu⟩ : ∃ u, x[k]? = some u := ⟨_, List.getElem?_eq_getElem (by rw [HQ.out]; exact hkq)⟩
                  have hix := str_at (s := s) (k := k) (u := u) (by rw [HS.out]; exact hu)
                  have hks : k < s.size := by omega
                  have hst := strip_take hu
                  have k1 : (k : Int) < (q : Int) := by omega
                  by_cases hu10 : u = 10
                  · subst hu10
                    rw [if_pos rfl, List.append_nil] at hst
                    have HP5 := Lib.hid (show PrI w wr (.slice A4 p4 c4) (t ++ [32, 9, 35] ++ strip (x.take (k + 1))) by rw [hst]; exact HP.out)
                    clear hu hst ho4 hp4 HP
                    go_wp2
                    go_roundw
                    case rel => exact ⟨k + 1, by first | rfl | (congr 1), by omega, HP5⟩
                    case measure => simp [intOf]; omega
                  · rw [if_neg hu10] at hst
                    have hu2 : ((u.toNat : Int) == 10) = false := beq_eq_false_iff_ne.2 (nat_ne (c := 10) (by omega) hu10)
                    have hpl4 : p4 ≤ 40000 := by
                      have h8 := strip_length (x.take k)
                      rw [List.length_take, HQ.out] at h8
                      have h9 := HPL.out
                      have h10 := HQ100.out
                      rw [hp4, List.length_append, List.length_append, ← h9]
                      show p + 3 + _ ≤ _
                      omega
                    have hbs := HP.out.b.size
                    have HOA := Lib.hid (ho4.alloc (.cells #[.int .u8 (u.toNat : Int)] 5))
                    have HPA := Lib.hid (HP.out.past ((Below.refl _ wr).alloc (Nat.le_refl _) (.cells #[.int .u8 (u.toNat : Int)] 5)))
                    have HPL4 := Lib.hid hp4
                    have HST := Lib.hid hst
                    have hm64 : p4 + 1 ≤ 140737488355328 := by omega
                    have hbase : w.heap.size ≤ (wr.alloc (.cells #[.int .u8 (u.toNat : Int)] 5)).heap.size := by simp; omega
                    clear hu hst ho4 hp4 HP hpl4 hbs
                    go_wp2_with (at_builtin
                                 go_loud (refine wpList_app rfl (.tmp 72) (.tmp 79) 32 rfl w.heap.size 5 i0 _ Tryd.underlying32 hi0 hz0 hz1 hz2 rfl (.slice A4 p4 c4) p4 _ rfl HOA.out (wr.heap.size + 1) (some ⟨wr.heap.size, 0, none⟩) 1 1 [u] rfl rfl (Rd.lit wr #[.int .u8 (u.toNat : Int)] _ [u] rfl) hm64 hbase ?_)
                                 intro v3 w3 hown3 hg3 hat3
                                 refine Classical.byContradiction fun hcontra => ?_)
                    have HP5 := Lib.hid (show PrI w w3 v3 (t ++ [32, 9, 35] ++ strip (x.take (k + 1))) by
                      have := HPA.out.app HPL4.out (show ([u] : List UInt8).length = 1 from rfl) hown3 hg3
                      rw [HST.out, ← List.append_assoc]
                      exact this)
                    clear hown3 hg3 hat3 HOA HPA hm64 hbase
                    apply hcontra
                    clear hcontra
                    go_wp2
                    go_roundw
                    case rel => exact ⟨k + 1, by first | rfl | (congr 1), by omega, HP5⟩
                    case measure => simp [intOf]; omega
                · have hkq2 : k = q := by omega
                  have k1 : ¬ (k : Int) < (q : Int) := by omega
                  have hxt : x.take k = x := List.take_of_length_le (by rw [HQ.out]; omega)
                  rw [hxt] at hp4 ho4
                  have HP6 := Lib.hid (show PrI w wr (.slice A4 p4 c4) (t ++ [32, 9, 35] ++ strip x) by have := HP.out; rw [hxt] at this; exact this)
                  have hpl4 : p4 ≤ 40000 := by
                    have h8 := strip_length x
                    rw [HQ.out] at h8
                    have h9 := HPL.out
                    have h10 := HQ100.out
                    rw [hp4, List.length_append, List.length_append, ← h9]
                    show p + 3 + _ ≤ _
                    omega
                  have hbs := HP.out.b.size
                  have HOA := Lib.hid (ho4.alloc (.cells #[.int .u8 10, .int .u8 32, .int .u8 10] 5 (3, 4)))
                  have HPA := Lib.hid (HP6.out.past ((Below.refl _ wr).alloc (Nat.le_refl _) (.cells #[.int .u8 10, .int .u8 32, .int .u8 10] 5 (3, 4))))
                  have HPL4 := Lib.hid hp4
                  have hm64 : p4 + 3 ≤ 140737488355328 := by omega
                  have hbase : w.heap.size ≤ (wr.alloc (.cells #[.int .u8 10, .int .u8 32, .int .u8 10] 5 (3, 4))).heap.size := by simp; omega
                  clear ho4 hp4 HP HP6 hbs hxt hkq2
                  go_wp2_with (at_builtin
                               go_loud (refine wpList_app rfl (.tmp 81) (.tmp 83) 32 rfl w.heap.size 5 i0 _ Tryd.underlying32 hi0 hz0 hz1 hz2 rfl (.slice A4 p4 c4) p4 _ rfl HOA.out (wr.heap.size + 1) (some ⟨wr.heap.size, 0, none⟩) 3 3 [10, 32, 10] rfl rfl (rd_mark wr _ _ _ [10, 32, 10] rfl) hm64 hbase ?_)
                               intro v3 w3 hown3 hg3 hat3
                               refine Classical.byContradiction fun hcontra => ?_)
                  have HPN := Lib.hid (show PrI w w3 v3 (t ++ joinL (noteO ns[i]?)) by
                    have := HPA.out.app HPL4.out (show ([10, 32, 10] : List UInt8).length = 3 from rfl) hown3 hg3
                    rw [HX.out]
                    show PrI w w3 v3 (t ++ joinL (noteL x))
                    rw [join_note, ← List.append_assoc, ← List.append_assoc]
                    exact this)
                  have hpl5 : p4 + 3 ≤ 50000 := by omega
                  have HLEN := Lib.hid (show (t ++ joinL (noteO ns[i]?)).length ≤ 50000 by
                    rw [HX.out]
                    show (t ++ joinL (noteL x)).length ≤ _
                    rw [join_note, ← List.append_assoc, ← List.append_assoc, List.length_append, ← HPL4.out]
                    exact hpl5)
                  have HN2 := Lib.hid (show (noteO ns[i]?).length = 2 by rw [HX.out]; rfl)
                  have HSN := Lib.hid (show ∀ x ∈ ns.take (i + 1), x.length ≤ 100 by
                    intro z hz
                    rw [List.take_add_one, HX.out] at hz
                    rcases List.mem_append.1 hz with hz | hz
                    · exact HSS.out z hz
                    · have : z = x := by simpa using hz
                      rw [this, HQ.out]
                      exact Nat.le_of_not_lt HQ100.out)
                  clear hown3 hg3 hat3 HOA HPA hm64 hbase hpl4 hpl5
                  apply hcontra
                  clear hcontra y0
                  obtain ⟨A5, p5, c5, hv5, hp5, ho5⟩ := HPN.out.open
                  subst hv5
                  obtain ⟨a2, e, rfl, he, -, g0, g1, g2, hfe⟩ := (HES.out.below HPN.out.b).at (k := i) (by rw [HL.out]; exact hin2)
                  obtain ⟨x0, x1, x2⟩ := e
                  simp only at g0 g1 g2
                  have HFE := Lib.hid hfe
                  have HEI := Lib.hid he
                  obtain ⟨s1, s2, hs1, hs2, hcat⟩ := tab_line (lineS ⟨x0, x1, x2⟩ ++ [10]) (by have := lineS_length hfe; rw [List.length_append]; simp; omega)
                  have HS1 := Lib.hid hs1
                  obtain ⟨q2, hq2⟩ : ∃ q2, s2.size = q2 := ⟨_, rfl⟩
                  obtain ⟨y2, hy2⟩ : ∃ y2, y2 = 9 :: 32 :: (lineS ⟨x0, x1, x2⟩ ++ [10]) := ⟨_, rfl⟩
                  have HY2 := Lib.hid hy2
                  have hyl : y2.length = q2 := by rw [hy2, ← hs2, len_eq, hq2]
                  have hq65 : q2 ≤ 65 := by
                    have := lineS_length hfe
                    rw [← hyl, hy2]
                    simp; omega
                  have HYL := Lib.hid hyl
                  have HQ2 := Lib.hid hq2
                  have HS2 := Lib.hid (show s2.data.toList = y2 by rw [hs2, hy2])
                  have HO5 := Lib.hid ho5
                  have HP5 := Lib.hid hp5
                  have hp5l : p5 ≤ 50000 := by rw [hp5]; exact HLEN.out
                  clear hfe he hs1 hs2 hq2 hy2 hyl hp5 ho5
                  go_wp2_with fail
                  refine (line_str ⟨x0, x1, x2⟩ HFE.out s1 HS1.out w3).mono ?_
                  rintro e w6 ⟨rfl, hb6⟩
                  have e1 := Lib.run_convert_string_bytes (P := Tryd.prog) w6 9 32 5 s2 (u := .string) Tryd.underlying9 Tryd.underlying32 Tryd.underlying5
                  have hb8 := Lib.bytesWorld_below w6 5 s2
                  have hr8 := rd_bytes' w6 5 s2 y2 HS2.out
                  obtain ⟨cb, hcb⟩ : ∃ cb, grownCap w6 s2.size 0 5 = cb := ⟨_, rfl⟩
                  obtain ⟨Wb, hWb⟩ : ∃ Wb, Lib.bytesWorld w6 5 s2 = Wb := ⟨_, rfl⟩
                  rw [hWb] at e1 hb8 hr8
                  rw [hcb, HQ2.out] at e1
                  have hb68 : Below w3.heap.size w3 Wb := hb6.trans (hb8.mono hb6.size)
                  have HP8 := Lib.hid (HPN.out.past hb68)
                  have HO8 := Lib.hid (own_below' HO5.out hb68)
                  have HR8 := Lib.hid hr8
                  have hm64 : p5 + q2 ≤ 140737488355328 := by omega
                  have hbase := HP8.out.b.size
                  clear hb8 hr8 hWb hcb hb6 hb68 HPN HO5
                  go_wp2_with (at_builtin
                               go_loud (refine wpList_app rfl (.tmp 91) (.tmp 98) 32 rfl w.heap.size 5 i0 _ Tryd.underlying32 hi0 hz0 hz1 hz2 rfl (.slice A5 p5 c5) p5 _ rfl HO8.out (w6.heap.size + 1) (some ⟨w6.heap.size, 0, none⟩) q2 cb y2 rfl HYL.out HR8.out hm64 hbase ?_)
                               intro v3 w3 hown3 hg3 hat3
                               refine Classical.byContradiction fun hcontra => ?_)
                  have HP9 := Lib.hid (show PrI w w3 v3 ((t ++ joinL (noteO ns[i]?)) ++ joinL (edgeO es[i]?)) by
                    have := HP8.out.app HP5.out HYL.out hown3 hg3
                    rw [HY2.out, ← join_edge] at this
                    rw [HEI.out]
                    exact this)
                  have HE1 := Lib.hid (show (edgeO es[i]?).length = 1 by rw [HEI.out]; rfl)
                  clear hown3 hg3 hat3 HO8 HP8 HR8 hm64 hbase e1 hcat
                  apply hcontra
                  clear hcontra
                  have HFIN := Lib.hid (show PaI w w3 v3 (i + 1) (f + (2 + 1)) es ns by
                    have hmt := mix_take es ns i (by rw [HL.out, HM.out]; omega)
                    refine ⟨?_, ?_, HSN.out⟩
                    · rw [hmt, joinL_append, joinL_append, ← HT.out, ← List.append_assoc]
                      exact HP9.out
                    · rw [hmt, List.length_append, List.length_append, HN2.out, HE1.out, ← HC.out])
                  go_wp2
                  go_roundw
                  case rel => exact ⟨i + 1, f + (2 + 1), by first | rfl | (congr 1; done) | (congr 1; omega), by first | rfl | (congr 1; done) | (congr 1; omega), by omega, by omega, by omega, HFIN⟩
                  case measure => simp [intOf]; omega
            · have h3 : ¬ (i : Int) < (n : Int) := by omega
              have hbs := HP.out.b.size
              obtain ⟨p0, hp0⟩ : ∃ p0, p0 = p := ⟨_, rfl⟩
              have HOA := Lib.hid (show (wr.alloc (.cells #[.int .u8 32, .int .u8 9, .int .u8 35] 5 (3, 4))).ownsRow w.heap.size 5 1 (.slice A1 p c1) p (cellsOf t) by
                obtain ⟨A9, p9, c9, hv9, hp9, ho9⟩ := HP.out.open
                injection hv9 with e1 e2 e3
                subst e1 e2 e3
                exact ho9.alloc _)
              have HPA := Lib.hid (HP.out.past ((Below.refl _ wr).alloc (Nat.le_refl _) (.cells #[.int .u8 32, .int .u8 9, .int .u8 35] 5 (3, 4))))
              have hm64 : p + 3 ≤ 140737488355328 := by omega
              have hbase : w.heap.size ≤ (wr.alloc (.cells #[.int .u8 32, .int .u8 9, .int .u8 35] 5 (3, 4))).heap.size := by simp; omega
              clear hp0 hbs HP
              go_wp2_with (at_builtin
                           go_loud (refine wpList_app rfl (.tmp 52) (.tmp 54) 32 rfl w.heap.size 5 i0 _ Tryd.underlying32 hi0 hz0 hz1 hz2 rfl (.slice A1 p c1) p t rfl HOA.out (wr.heap.size + 1) (some ⟨wr.heap.size, 0, none⟩) 3 3 [32, 9, 35] rfl rfl (rd_mark wr _ _ _ [32, 9, 35] rfl) hm64 hbase ?_)
                           intro v3 w3 hown3 hg3 hat3
                           refine Classical.byContradiction fun hcontra => ?_)
              have HP3 := Lib.hid (show PrI w w3 v3 (t ++ [32, 9, 35] ++ strip (x.take 0)) by
                have := HPA.out.app HPL.out (show ([32, 9, 35] : List UInt8).length = 3 from rfl) hown3 hg3
                simpa [strip] using this)
              clear hown3 hg3 hat3 HOA HPA hm64 hbase
              apply hcontra
              clear hcontra y0
              go_wp2
              go_loopw [7, 10] (fun v j wx => ∃ k : Nat, j = .int .i64 (k : Int) ∧ k ≤ q ∧ Hid (PrI w wx v (t ++ [32, 9, 35] ++ strip (x.take k)))) (fun _ j _ => (q - intOf j).toNat)
              case atStart => exact ⟨0, rfl, Nat.zero_le _, HP3⟩
              case round =>
                clear HP3
                obtain ⟨k, rfl, hk, HP⟩ := hrel
                obtain ⟨A4, p4, c4, hv4, hp4, ho4⟩ := HP.out.open
                subst hv4
                obtain ⟨a', hBa, y0⟩ := HNC.out wr HP.out.b
                injection hBa with hBa
                subst hBa
                by_cases hkq : k < q
                · obtain ⟨u, hu⟩ : ∃ u, x[k]? = some u := ⟨_, List.getElem?_eq_getElem (by rw [HQ.out]; exact hkq)⟩
                  have hix := str_at (s := s) (k := k) (u := u) (by rw [HS.out]; exact hu)
                  have hks : k < s.size := by omega
                  have hst := strip_take hu
                  have k1 : (k : Int) < (q : Int) := by omega
                  by_cases hu10 : u = 10
                  · subst hu10
                    rw [if_pos rfl, List.append_nil] at hst
                    have HP5 := Lib.hid (show PrI w wr (.slice A4 p4 c4) (t ++ [32, 9, 35] ++ strip (x.take (k + 1))) by rw [hst]; exact HP.out)
                    clear hu hst ho4 hp4 HP
                    go_wp2
                    go_roundw
                    case rel => exact ⟨k + 1, by first | rfl | (congr 1), by omega, HP5⟩
                    case measure => simp [intOf]; omega
                  · rw [if_neg hu10] at hst
                    have hu2 : ((u.toNat : Int) == 10) = false := beq_eq_false_iff_ne.2 (nat_ne (c := 10) (by omega) hu10)
                    have hpl4 : p4 ≤ 40000 := by
                      have h8 := strip_length (x.take k)
                      rw [List.length_take, HQ.out] at h8
                      have h9 := HPL.out
                      have h10 := HQ100.out
                      rw [hp4, List.length_append, List.length_append, ← h9]
                      show p + 3 + _ ≤ _
                      omega
                    have hbs := HP.out.b.size
                    have HOA := Lib.hid (ho4.alloc (.cells #[.int .u8 (u.toNat : Int)] 5))
                    have HPA := Lib.hid (HP.out.past ((Below.refl _ wr).alloc (Nat.le_refl _) (.cells #[.int .u8 (u.toNat : Int)] 5)))
                    have HPL4 := Lib.hid hp4
                    have HST := Lib.hid hst
                    have hm64 : p4 + 1 ≤ 140737488355328 := by omega
                    have hbase : w.heap.size ≤ (wr.alloc (.cells #[.int .u8 (u.toNat : Int)] 5)).heap.size := by simp; omega
                    clear hu hst ho4 hp4 HP hpl4 hbs
                    go_wp2_with (at_builtin
                                 go_loud (refine wpList_app rfl (.tmp 72) (.tmp 79) 32 rfl w.heap.size 5 i0 _ Tryd.underlying32 hi0 hz0 hz1 hz2 rfl (.slice A4 p4 c4) p4 _ rfl HOA.out (wr.heap.size + 1) (some ⟨wr.heap.size, 0, none⟩) 1 1 [u] rfl rfl (Rd.lit wr #[.int .u8 (u.toNat : Int)] _ [u] rfl) hm64 hbase ?_)
                                 intro v3 w3 hown3 hg3 hat3
                                 refine Classical.byContradiction fun hcontra => ?_)
                    have HP5 := Lib.hid (show PrI w w3 v3 (t ++ [32, 9, 35] ++ strip (x.take (k + 1))) by
                      have := HPA.out.app HPL4.out (show ([u] : List UInt8).length = 1 from rfl) hown3 hg3
                      rw [HST.out, ← List.append_assoc]
                      exact this)
                    clear hown3 hg3 hat3 HOA HPA hm64 hbase
                    apply hcontra
                    clear hcontra
                    go_wp2
                    go_roundw
                    case rel => exact ⟨k + 1, by first | rfl | (congr 1), by omega, HP5⟩
                    case measure => simp [intOf]; omega
                · have hkq2 : k = q := by omega
                  have k1 : ¬ (k : Int) < (q : Int) := by omega
                  have hxt : x.take k = x := List.take_of_length_le (by rw [HQ.out]; omega)
                  rw [hxt] at hp4 ho4
                  have HP6 := Lib.hid (show PrI w wr (.slice A4 p4 c4) (t ++ [32, 9, 35] ++ strip x) by have := HP.out; rw [hxt] at this; exact this)
                  have hpl4 : p4 ≤ 40000 := by
                    have h8 := strip_length x
                    rw [HQ.out] at h8
                    have h9 := HPL.out
                    have h10 := HQ100.out
                    rw [hp4, List.length_append, List.length_append, ← h9]
                    show p + 3 + _ ≤ _
                    omega
                  have hbs := HP.out.b.size
                  have HOA := Lib.hid (ho4.alloc (.cells #[.int .u8 10, .int .u8 32, .int .u8 10] 5 (3, 4)))
                  have HPA := Lib.hid (HP6.out.past ((Below.refl _ wr).alloc (Nat.le_refl _) (.cells #[.int .u8 10, .int .u8 32, .int .u8 10] 5 (3, 4))))
                  have HPL4 := Lib.hid hp4
                  have hm64 : p4 + 3 ≤ 140737488355328 := by omega
                  have hbase : w.heap.size ≤ (wr.alloc (.cells #[.int .u8 10, .int .u8 32, .int .u8 10] 5 (3, 4))).heap.size := by simp; omega
                  clear ho4 hp4 HP HP6 hbs hxt hkq2
                  go_wp2_with (at_builtin
                               go_loud (refine wpList_app rfl (.tmp 81) (.tmp 83) 32 rfl w.heap.size 5 i0 _ Tryd.underlying32 hi0 hz0 hz1 hz2 rfl (.slice A4 p4 c4) p4 _ rfl HOA.out (wr.heap.size + 1) (some ⟨wr.heap.size, 0, none⟩) 3 3 [10, 32, 10] rfl rfl (rd_mark wr _ _ _ [10, 32, 10] rfl) hm64 hbase ?_)
                               intro v3 w3 hown3 hg3 hat3
                               refine Classical.byContradiction fun hcontra => ?_)
                  have HPN := Lib.hid (show PrI w w3 v3 (t ++ joinL (noteO ns[i]?)) by
                    have := HPA.out.app HPL4.out (show ([10, 32, 10] : List UInt8).length = 3 from rfl) hown3 hg3
                    rw [HX.out]
                    show PrI w w3 v3 (t ++ joinL (noteL x))
                    rw [join_note, ← List.append_assoc, ← List.append_assoc]
                    exact this)
                  have hpl5 : p4 + 3 ≤ 50000 := by omega
                  have HLEN := Lib.hid (show (t ++ joinL (noteO ns[i]?)).length ≤ 50000 by
                    rw [HX.out]
                    show (t ++ joinL (noteL x)).length ≤ _
                    rw [join_note, ← List.append_assoc, ← List.append_assoc, List.length_append, ← HPL4.out]
                    exact hpl5)
                  have HN2 := Lib.hid (show (noteO ns[i]?).length = 2 by rw [HX.out]; rfl)
                  have HSN := Lib.hid (show ∀ x ∈ ns.take (i + 1), x.length ≤ 100 by
                    intro z hz
                    rw [List.take_add_one, HX.out] at hz
                    rcases List.mem_append.1 hz with hz | hz
                    · exact HSS.out z hz
                    · have : z = x := by simpa using hz
                      rw [this, HQ.out]
                      exact Nat.le_of_not_lt HQ100.out)
                  clear hown3 hg3 hat3 HOA HPA hm64 hbase hpl4 hpl5
                  apply hcontra
                  clear hcontra y0
                  have HP9 := Lib.hid (show PrI w w3 v3 ((t ++ joinL (noteO ns[i]?)) ++ joinL (edgeO es[i]?)) by
                    rw [show es[i]? = none from List.getElem?_eq_none (by rw [HL.out]; omega)]
                    show PrI w w3 v3 ((t ++ joinL (noteO ns[i]?)) ++ [])
                    rw [List.append_nil]
                    exact HPN.out)
                  have HE1 := Lib.hid (show (edgeO es[i]?).length = 0 by rw [show es[i]? = none from List.getElem?_eq_none (by rw [HL.out]; omega)]; rfl)
                  clear HPN
                  have HFIN := Lib.hid (show PaI w w3 v3 (i + 1) (f + (2 + 0)) es ns by
                    have hmt := mix_take es ns i (by rw [HL.out, HM.out]; omega)
                    refine ⟨?_, ?_, HSN.out⟩
                    · rw [hmt, joinL_append, joinL_append, ← HT.out, ← List.append_assoc]
                      exact HP9.out
                    · rw [hmt, List.length_append, List.length_append, HN2.out, HE1.out, ← HC.out])
                  go_wp2
                  go_roundw
                  case rel => exact ⟨i + 1, f + (2 + 0), by first | rfl | (congr 1; done) | (congr 1; omega), by first | rfl | (congr 1; done) | (congr 1; omega), by omega, by omega, by omega, HFIN⟩
                  case measure => simp [intOf]; omega
        · have hi2 : ¬ (i : Int) < (m : Int) := by omega
          have hnn : ns[i]? = none := List.getElem?_eq_none (by rw [HM.out]; omega)
          have HPN := Lib.hid (show PrI w wr (.slice A1 p c1) (t ++ joinL (noteO ns[i]?)) by
            rw [hnn]
            show PrI w wr (.slice A1 p c1) (t ++ [])
            rw [List.append_nil]
            exact HP.out)
          have HLEN := Lib.hid (show (t ++ joinL (noteO ns[i]?)).length ≤ 50000 by
            rw [hnn]
            show (t ++ []).length ≤ _
            rw [List.append_nil, ← HPL.out]
            omega)
          have HN2 := Lib.hid (show (noteO ns[i]?).length = 0 by rw [hnn]; rfl)
          have HSN := Lib.hid (show ∀ x ∈ ns.take (i + 1), x.length ≤ 100 by
            intro z hz
            rw [List.take_add_one, hnn] at hz
            exact HSS.out z (by simpa using hz))
          clear hnn
          by_cases hin2 : i < n
          · have h3 : (i : Int) < (n : Int) := by omega
            clear HP HPL
            obtain ⟨A5, p5, c5, hv5, hp5, ho5⟩ := HPN.out.open
            injection hv5.symm with e1 e2 e3
            subst e1 e2 e3
            obtain ⟨a2, e, rfl, he, -, g0, g1, g2, hfe⟩ := (HES.out.below HPN.out.b).at (k := i) (by rw [HL.out]; exact hin2)
            obtain ⟨x0, x1, x2⟩ := e
            simp only at g0 g1 g2
            have HFE := Lib.hid hfe
            have HEI := Lib.hid he
            obtain ⟨s1, s2, hs1, hs2, hcat⟩ := tab_line (lineS ⟨x0, x1, x2⟩ ++ [10]) (by have := lineS_length hfe; rw [List.length_append]; simp; omega)
            have HS1 := Lib.hid hs1
            obtain ⟨q2, hq2⟩ : ∃ q2, s2.size = q2 := ⟨_, rfl⟩
            obtain ⟨y2, hy2⟩ : ∃ y2, y2 = 9 :: 32 :: (lineS ⟨x0, x1, x2⟩ ++ [10]) := ⟨_, rfl⟩
            have HY2 := Lib.hid hy2
            have hyl : y2.length = q2 := by rw [hy2, ← hs2, len_eq, hq2]
            have hq65 : q2 ≤ 65 := by
              have := lineS_length hfe
              rw [← hyl, hy2]
              simp; omega
            have HYL := Lib.hid hyl
            have HQ2 := Lib.hid hq2
            have HS2 := Lib.hid (show s2.data.toList = y2 by rw [hs2, hy2])
            have HO5 := Lib.hid ho5
            have HP5 := Lib.hid hp5
            have hp5l : p5 ≤ 50000 := by rw [hp5]; exact HLEN.out
            clear hfe he hs1 hs2 hq2 hy2 hyl hp5 ho5
            go_wp2_with fail
            refine (line_str ⟨x0, x1, x2⟩ HFE.out s1 HS1.out wr).mono ?_
            rintro e w6 ⟨rfl, hb6⟩
            have e1 := Lib.run_convert_string_bytes (P := Tryd.prog) w6 9 32 5 s2 (u := .string) Tryd.underlying9 Tryd.underlying32 Tryd.underlying5
            have hb8 := Lib.bytesWorld_below w6 5 s2
            have hr8 := rd_bytes' w6 5 s2 y2 HS2.out
            obtain ⟨cb, hcb⟩ : ∃ cb, grownCap w6 s2.size 0 5 = cb := ⟨_, rfl⟩
            obtain ⟨Wb, hWb⟩ : ∃ Wb, Lib.bytesWorld w6 5 s2 = Wb := ⟨_, rfl⟩
            rw [hWb] at e1 hb8 hr8
            rw [hcb, HQ2.out] at e1
            have hb68 : Below wr.heap.size wr Wb := hb6.trans (hb8.mono hb6.size)
            have HP8 := Lib.hid (HPN.out.past hb68)
            have HO8 := Lib.hid (own_below' HO5.out hb68)
            have HR8 := Lib.hid hr8
            have hm64 : p5 + q2 ≤ 140737488355328 := by omega
            have hbase := HP8.out.b.size
            clear hb8 hr8 hWb hcb hb6 hb68 HPN HO5
            go_wp2_with (at_builtin
                         go_loud (refine wpList_app rfl (.tmp 91) (.tmp 98) 32 rfl w.heap.size 5 i0 _ Tryd.underlying32 hi0 hz0 hz1 hz2 rfl (.slice A5 p5 c5) p5 _ rfl HO8.out (w6.heap.size + 1) (some ⟨w6.heap.size, 0, none⟩) q2 cb y2 rfl HYL.out HR8.out hm64 hbase ?_)
                         intro v3 w3 hown3 hg3 hat3
                         refine Classical.byContradiction fun hcontra => ?_)
            have HP9 := Lib.hid (show PrI w w3 v3 ((t ++ joinL (noteO ns[i]?)) ++ joinL (edgeO es[i]?)) by
              have := HP8.out.app HP5.out HYL.out hown3 hg3
              rw [HY2.out, ← join_edge] at this
              rw [HEI.out]
              exact this)
            have HE1 := Lib.hid (show (edgeO es[i]?).length = 1 by rw [HEI.out]; rfl)
            clear hown3 hg3 hat3 HO8 HP8 HR8 hm64 hbase e1 hcat
            apply hcontra
            clear hcontra
            have HFIN := Lib.hid (show PaI w w3 v3 (i + 1) (f + (0 + 1)) es ns by
              have hmt := mix_take es ns i (by rw [HL.out, HM.out]; omega)
              refine ⟨?_, ?_, HSN.out⟩
              · rw [hmt, joinL_append, joinL_append, ← HT.out, ← List.append_assoc]
                exact HP9.out
              · rw [hmt, List.length_append, List.length_append, HN2.out, HE1.out, ← HC.out])
            go_wp2
            go_roundw
            case rel => exact ⟨i + 1, f + (0 + 1), by first | rfl | (congr 1; done) | (congr 1; omega), by first | rfl | (congr 1; done) | (congr 1; omega), by omega, by omega, by omega, HFIN⟩
            case measure => simp [intOf]; omega
          · have h3 : ¬ (i : Int) < (n : Int) := by omega
            clear HPN HLEN HN2 HSN
            have hte : es.take i = es := List.take_of_length_le (by rw [HL.out]; omega)
            have htn : ns.take i = ns := List.take_of_length_le (by rw [HM.out]; omega)
            have hss := HSS.out
            have hcc := HC.out
            have htt := HT.out
            rw [htn] at hss
            rw [hte, htn] at hcc htt
            have hrp := read_passed HES.out.2 HMT.out hss (by rw [HL.out]; exact hn100) (by rw [HM.out]; exact hm100)
            rw [← htt, ← hcc] at hrp
            have HRP := Lib.hid hrp
            have HB := Lib.hid HP.out.b
            obtain ⟨A5, p5, c5, hv5, hp5, ho5⟩ := HP.out.open
            injection hv5 with e1 e2 e3
            subst e1 e2 e3
            have hcap := own_bounds ho5
            have HO5 := Lib.hid ho5
            have hf3 : f ≤ 300 := by omega
            have HN100 := Lib.hid hn100
            clear hte htn hss hcc htt hrp ho5 hp5 HSS HC HT HP
            cases bad with
            | false =>
              go_wp2_with fail
              refine (read_any A1 p c1 t HPL.out.symm hcap.1 hcap.2 wr (Rd.of_own HO5.out) (HE.out.below HB.out)).mono ?_
              rw [HRP.out.1]
              rintro e w7 ⟨A7, c7, rfl, hc7, he7, hb7⟩
              have HB7 := Lib.hid (HB.out.trans (hb7.mono HB.out.size))
              have HE7 := Lib.hid he7
              have HA7 := Lib.hid ((HES.out.below HB7.out).more HB7.out.size)
              clear hb7 he7
              simp only [HL.out]
              go_wp2_with fail
              refine (esame_any A7 A n c7 c es w7 HL.out (by have := HN100.out; omega) HE7.out HA7.out).mono ?_
              rintro e w8 ⟨rfl, hb8⟩
              have HB8 := Lib.hid (HB7.out.trans (hb8.mono HB7.out.size))
              clear hb8
              go_wp2_with fail
              refine (awake_any w8 (HE.out.below HB8.out)).mono ?_
              rintro e w9 ⟨rfl, hb9⟩
              have HB9 := Lib.hid (HB8.out.trans (hb9.mono HB8.out.size))
              clear hb9
              go_wp2
              go_ret
              exact ⟨rfl, HB9.out⟩
            | true =>
              have hm64 : p + 3 ≤ 140737488355328 := by omega
              have hbs := HB.out.size
              have hbase : w.heap.size ≤ (wr.alloc (.cells #[.int .u8 49, .int .u8 32, .int .u8 120] 5 (3, 4))).heap.size := by simp; omega
              have HOA := Lib.hid (HO5.out.alloc (.cells #[.int .u8 49, .int .u8 32, .int .u8 120] 5 (3, 4)))
              have HBA := Lib.hid (HB.out.alloc HB.out.size (.cells #[.int .u8 49, .int .u8 32, .int .u8 120] 5 (3, 4)))
              clear hbs HO5
              go_wp2_with (at_builtin
                           go_loud (refine wpList_app rfl (.tmp 103) (.tmp 105) 32 rfl w.heap.size 5 i0 _ Tryd.underlying32 hi0 hz0 hz1 hz2 rfl (.slice A1 p c1) p t rfl HOA.out (wr.heap.size + 1) (some ⟨wr.heap.size, 0, none⟩) 3 3 [49, 32, 120] rfl rfl (rd_mark wr _ _ _ [49, 32, 120] rfl) hm64 hbase ?_)
                           intro v3 w3 hown3 hg3 hat3
                           refine Classical.byContradiction fun hcontra => ?_)
              have hb3 : Below w.heap.size w w3 := HBA.out.grown hg3 HBA.out.size (fun g e => (HOA.out.lt g e).1)
              obtain ⟨A6, c6, hv6, -⟩ := own_slice' hown3
              subst hv6
              have hcap6 := own_bounds hown3
              have HB3 := Lib.hid hb3
              have HR6 := Lib.hid (Rd.of_own hown3)
              have HL6 := Lib.hid (show (t ++ [49, 32, 120]).length = p + 3 by rw [List.length_append, ← HPL.out]; rfl)
              clear hown3 hg3 hat3 hb3 HOA HBA hm64 hbase
              apply hcontra
              clear hcontra
              go_wp2_with fail
              refine (read_any A6 (p + 3) c6 (t ++ [49, 32, 120]) HL6.out hcap6.1 hcap6.2 w3 HR6.out (HE.out.below HB3.out)).mono ?_
              rw [HRP.out.2]
              rintro e w7 ⟨A7, c7, rfl, hc7, he7, hb7⟩
              have HB7 := Lib.hid (HB3.out.trans (hb7.mono HB3.out.size))
              clear hb7 he7 hc7
              simp only [List.length_nil]
              obtain ⟨ew, ew2⟩ := add_small' (x := f) (by omega)
              go_wp2_with fail
              refine (awake_any w7 (HE.out.below HB7.out)).mono ?_
              rintro e w8 ⟨rfl, hb8⟩
              have HB8 := Lib.hid (HB7.out.trans (hb8.mono HB7.out.size))
              clear hb8
              go_wp2
              go_ret
              exact ⟨rfl, HB8.out⟩

set_option maxRecDepth 100000 in
theorem edgePassed_lifted (os : Os) (started : os.Started) (H : Type) (enc : TypeId × Value → H) :
    ReturnsInHanded {} Tryd.checked os 6 .any (fun w args => (Rows.edgePassedSpec.pre enc Tryd.prog Tryd.f6 Rows.edgePassedRow.domain false w args ∧ laidMetH Tryd.prog laidL w) ∧ sizedMet enc Tryd.prog Tryd.f6 (OpenSpec.ofChange Rows.edgePassedSpec) false w args)
      (Rows.edgePassedSpec.post enc Tryd.prog Tryd.f6 false true false false) := by
  refine returnsInHanded_of_change_and (C := Tryd.checked) (X := fun w _ => laidMetH Tryd.prog laidL w) (fun _ _ _ hh h => h.of_heap hh) own started (by kernel_rfl) Tryd.func6
    (ChangeSpec.witness_shaped (enc := enc) (C := Tryd.checked) (os := os) (X := fun w _ => laidMetH Tryd.prog laidL w) false (World.laidAll Tryd.prog os laidL) #[.slice none 0 0, .slice none 0 0, .bool false] 8 (World.laidAll_os _ _ _)
      (laid_shaped os) (by kernel_rfl) (by kernel_rfl) (by kernel_rfl) (laid_world os _)) ?_
  intro W base args ds gs before hval0 hW hc _ hL _
  have hval : ∀ (j : Nat) t v, Tryd.f6.params[j]? = some t → args[j]? = some v → Value.okWide Tryd.prog W .any base t v := hval0
  have hW' := hW
  obtain ⟨p, q, hA0, hV, rfl, _, _⟩ := hW
  have hA : DataW.TrodAll enc Tryd.prog W 0 (fun _ => true) true Tryd.f6.params.toList args.toList ds p := hA0
  rw [Tryd.params6] at hA hval
  obtain ⟨v0, v1, v2, d0, d1, d2, p0, p1, p2, rfl, rfl, rfl, h0, h1, h2⟩ := trodAll_three hA
  obtain ⟨A0, n0, c0, l0, rfl, hl0, hn0, hc0, hr0⟩ := open_eds Tryd.underlying33 Tryd.underlying25 (by kernel_rfl) (by kernel_rfl) rfl rfl rfl Tryd.underlying23 (hval 0 33 v0 rfl rfl) h0
  obtain ⟨A1, n1, c1, l1, rfl, hl1, hn1, hc1, hr1⟩ := open_texts (hval 1 42 v1 rfl rfl) h1
  obtain ⟨x2, rfl, -, -⟩ := open_bool Tryd.underlying4 (hval 2 4 v2 rfl rfl) h2
  refine (edgePassed_walk A0 n0 c0 l0 hl0 hn0 hc0 A1 n1 c1 l1 hl1 hn1 hc1 x2 W hr0 hr1 hL).mono fun e W' ⟨he, hb⟩ => ?_
  subst he
  exact ⟨_, rfl, Lw.post_true laidOut (by kernel_rfl) rfl rfl rfl rfl (by kernel_rfl) Tryd.underlying4 hW' hb⟩
set_option maxRecDepth 100000 in
theorem edgePassed_row : Rows.EdgePassedSaid :=
  OpenClaim.holds_of_wide 6 Tryd.f6 rfl rfl rfl rfl rfl rfl rfl ⟨rfl, rfl, rfl, rfl, rfl⟩ rfl rfl rfl rfl rfl (by kernel_rfl) Tryd.func6 (by kernel_rfl)
    (of_decide_eq_true (by kernel_rfl)) (by unfold Func.isWrapper; first | (rw [if_pos (by decide +kernel)]; kernel_rfl) | (rw [if_neg (by decide +kernel)]; exact ⟨rfl, rfl⟩))
    (fun os started H enc _ => edgePassed_lifted os started H enc)
set_option maxRecDepth 100000 in
theorem edgePassed_holds : Rows.EdgePassedCardSaid :=
  Claim7.holds_tied_plain_at .later [] [.data, .data, .data, .sentinel, .sentinel, .data, .data] true (true, "183fa1ae3bdabf8da4eedaa81e1dc8a6204b53098dcb5e3e5ab955ffde1bbcfc") true edgePassed_row (fun _ h => by cases h) (by kernel_rfl) (fun _ h => by cases h) edgePassed_row_tie rfl ⟨rfl, rfl⟩ (by kernel_rfl) rfl
    (fun f fn hf hfn => by
      obtain rfl : f = 6 := Option.some.inj ((show Tryd.prog.funcNamed "palmer/palmerlaw12.EdgePassed" = some 6 by kernel_rfl).symm.trans hf) |>.symm
      obtain rfl : fn = Tryd.f6 := (Option.some.inj (Tryd.func6.symm.trans hfn)).symm
      exact ⟨by kernel_rfl, fun j t ht => by
        rw [Tryd.params6] at ht
        have hm : t ∈ [33, 42, 4] := by simpa using Array.mem_of_getElem? ht
        have hall : ([33, 42, 4].all fun u => !Tryd.prog.wantsStandIn u) = true := by kernel_rfl
        exact (show Tryd.prog.wantsStandIn t = false by simpa using List.all_eq_true.1 hall t hm)⟩)
    (by kernel_rfl)
#print axioms edgePassed_holds
end Go.Proofs.YtbedepnmgnlijaaDoor
