/- CrcOwn is proved: what was marked, or fits, is memory of one's own; for every input, no conditions. -/
import Derived.Test.YteonfodeddaoiaaFitsLaw
namespace Go.Proofs.Yteonfodeddaoiaa
open Go.RowKit Cr Me

/-- A row of one's own that has been written into, and nothing else has. -/
def Turned (w0 w : World) (base : Nat) (v : Value) (n : Nat) : Prop :=
  ∃ l : List UInt8, l.length = n ∧ w.ownsRow base 5 1 v n (cellsOf l) ∧ w0.grownBy w v.ownBlock
theorem own_set {w : World} {base : Nat} {e : TypeId} {g n cap : Nat} {l : List UInt8} (h : w.ownsRow base e 1 (.slice (some ⟨g, 0, none⟩) n cap) n (cellsOf l)) (j : Nat) (x : UInt8) :
    (w.setCell ⟨g, j, none⟩ (.int .u8 (x.toNat : Int))).ownsRow base e 1 (.slice (some ⟨g, 0, none⟩) n cap) n (cellsOf (l.set j x)) ∧ w.grownBy (w.setCell ⟨g, j, none⟩ (.int .u8 (x.toNat : Int))) (some g) := by
  have := h.stored j (.int .u8 (x.toNat : Int))
  have e : cellsOf (l.set j x) = (cellsOf l).set j (.int .u8 (x.toNat : Int)) := by simp [cellsOf, List.map_set]
  rw [e]
  exact this
theorem own_at {w : World} {base : Nat} {e : TypeId} {g n cap : Nat} {l : List UInt8} (h : w.ownsRow base e 1 (.slice (some ⟨g, 0, none⟩) n cap) n (cellsOf l)) {j : Nat} (hj : j < n) :
    ∃ u, l[j]? = some u ∧ w.cell? ⟨g, j, none⟩ = some (.int .u8 (u.toNat : Int)) ∧ w.frozen? ⟨g, j, none⟩ = false := by
  have hl := h.1
  rw [cellsOf_length] at hl
  have hg : l[j]? = some l[j] := List.getElem?_eq_getElem (by omega)
  refine ⟨l[j], hg, ?_, h.frozenAt j⟩
  rw [h.cellAt j (by omega)]
  exact cellsOf_get hg
theorem xor_u8 (a b : UInt8) : bits .xor .u8 (a.toNat : Int) (b.toNat : Int) = ((a ^^^ b).toNat : Int) := by
  rw [u8_xor_nat _ _ a.toNat_lt b.toNat_lt, UInt8.toNat_xor]

/-- Bytes with their sum fit, in memory of one's own. -/
theorem fits_mark (a : Addr) (n c : Nat) (l : List UInt8) (w : World) (hl : l.length = n) (hc : n + 4 ≤ c) (hn : n ≤ 70368744177664) (hr : Rd w w.heap.size (some a) (Cr.mark l)) :
    Calls Try.prog 11 #[.slice (some a) (n + 4) c] w fun e w' => ∃ X cx, e = .returned (.tuple #[.slice X n cx, .int .i64 0]) ∧ w'.ownsRow w.heap.size 5 1 (.slice X n cx) n (cellsOf l) ∧ Below w.heap.size w w' := by
  have hm : (Cr.mark l).length = n + 4 := (mark_length l).trans (by rw [hl])
  have ht : (Cr.mark l).take n = l := by unfold Cr.mark; rw [← hl]; simp
  refine (fits_long a n c (Cr.mark l) w hm hc hn hr true (by rw [ht]; simp)).mono fun e w' ⟨hb, h⟩ => ?_
  obtain ⟨v, he, ho⟩ : ∃ v, e = .returned (.tuple #[v, .int .i64 0]) ∧ w'.ownsRow w.heap.size 5 1 v n (cellsOf ((Cr.mark l).take n)) := h
  rw [ht] at ho
  obtain ⟨X, cx, rfl⟩ := own_slice ho
  exact ⟨X, cx, he, ho, hb⟩
/-- Nothing below the row's base has turned. -/
theorem Turned.below {w0 w : World} {base B : Nat} {v : Value} {n : Nat} (h : Turned w0 w base v n) (hB : B ≤ base) (hs : B ≤ w0.heap.size) : Below B w0 w := by
  obtain ⟨l, -, ho, hg⟩ := h
  exact (Below.refl B w0).grown hg hs fun k hk => by have := (World.ownsRow.lt ho k hk).1; omega
theorem turned_start {w : World} {base : Nat} {v : Value} {n : Nat} {l : List UInt8} (h : w.ownsRow base 5 1 v n (cellsOf l)) (hl : l.length = n) : Turned w w base v n :=
  ⟨l, hl, h, World.grownBy.refl w _⟩
/-- A row with an element, as a round meets it. -/
theorem Turned.at {w0 w : World} {base : Nat} {X : Option Addr} {n c j : Nat} (h : Turned w0 w base (.slice X n c) n) (hj : j < n) :
    ∃ (g : Nat) (u : UInt8), X = some ⟨g, 0, none⟩ ∧ w.cell? ⟨g, j, none⟩ = some (.int .u8 (u.toNat : Int)) ∧ w.frozen? ⟨g, j, none⟩ = false ∧
      ∀ x : UInt8, Turned w0 (w.setCell ⟨g, j, none⟩ (.int .u8 (x.toNat : Int))) base (.slice X n c) n := by
  obtain ⟨l, hl, ho, hg⟩ := h
  obtain ⟨g, cap, hv, -, -⟩ := ho.form (by omega)
  injection hv with h1 h2 h3
  subst h1 h3
  obtain ⟨u, -, hc, hf⟩ := own_at ho hj
  refine ⟨g, u, rfl, hc, hf, fun x => ?_⟩
  obtain ⟨a1, a2⟩ := own_set ho j x
  exact ⟨l.set j x, by simpa using hl, a1, hg.trans a2⟩
theorem kept_other {w0 w : World} {base base' : Nat} {v : Value} {g n n' cap : Nat} {l : List UInt8} (h : w0.ownsRow base' 5 1 v n' (cellsOf l)) (ht : Turned w0 w base (.slice (some ⟨g, 0, none⟩) n cap) n) (hg : g < base') : w.ownsRow base' 5 1 v n' (cellsOf l) := by
  obtain ⟨-, -, -, hgr⟩ := ht
  refine h.kept hgr ?_
  cases hv : v.ownBlock with
  | none => exact .inl rfl
  | some k =>
    right
    have := (World.ownsRow.lt h k hv).1
    simp [Value.ownBlock]
    omega
set_option maxHeartbeats 1000000 in
theorem own_law (A : Option Addr) (n c : Nat) (l : List UInt8) (y : UInt8) (w : World) (hl : l.length = n) (hn : n ≤ 1000) (hr : Rd w w.heap.size A l) :
    Calls Try.prog 6 #[.slice A n c, .int .u8 (y.toNat : Int)] w fun e w' => e = .returned (.bool true) ∧ Below w.heap.size w w' := by
  obtain ⟨i0, hi0, hz0, hz1, hz2⟩ := info_parts u8_info
  have d1 : decide ((1000 : Int) < (n : Int)) = false := by simp; omega
  have hb0 : Below w.heap.size w (w.alloc (.cells #[] 5)) := (Below.refl _ _).alloc (Nat.le_refl _) _
  have hy := y.toNat_lt
  have HL := Lib.hid hl
  have HR := Lib.hid hr
  have HB0 := Lib.hid hb0
  clear hl hr hb0
  go_enter Try.func6, Try.ntmps6
  go_wp2_with (at_builtin
               refine wpList_app rfl (.tmp 18) (.tmp 19) 22 rfl w.heap.size 5 i0 _ Try.underlying22 hi0 hz0 hz1 hz2 rfl (.slice (some ⟨w.heap.size, 0, none⟩) 0 0) 0 [] rfl (own_empty w _ _ (Nat.le_refl _)) w.heap.size A n c l rfl HL.out (HR.out.below HB0.out) (by omega) HB0.out.size ?_
               intro v1 w1 hown1 hg1 hat1
               have HB1 := Lib.hid (below_app HB0.out (own_empty w _ _ (Nat.le_refl _)) (Nat.le_refl _) HB0.out.size hg1)
               have HW1 := Lib.hid hown1
               clear hat1 hg1 hown1)
  obtain ⟨Wa, cw, rfl⟩ := own_slice HW1.out
  have hw1 := HW1.out
  rw [Nat.zero_add, List.nil_append] at hw1
  rw [Nat.zero_add]
  have HRw := Lib.hid (Rd.of_own hw1)
  have HRb := Lib.hid ((HR.out.below HB1.out).more HB1.out.size)
  clear hw1 HW1
  refine (mark_any A n c l w1 HL.out (by omega) HRb.out).mono ?_
  rintro e w2 ⟨v2, rfl, ho2, hb2⟩
  obtain ⟨gm, cm, rfl, hgm1, hgm2⟩ := ho2.form (by omega)
  have HM := Lib.hid ho2
  have HB2 := Lib.hid hb2
  have HGM := Lib.hid hgm2
  have HMl := Lib.hid ((mark_length l).trans (by rw [HL.out]))
  have hcm : n + 4 ≤ cm := own_cap ho2 (by omega)
  have HB20 := Lib.hid (show Below w1.heap.size w1 (w2.alloc (.cells #[] 5)) from hb2.alloc hb2.size _)
  have HB22 := Lib.hid (show Below w2.heap.size w2 (w2.alloc (.cells #[] 5)) from (Below.refl _ _).alloc (Nat.le_refl _) _)
  clear ho2 hb2 hgm2
  go_wp2_with (at_builtin
               refine wpList_app rfl (.tmp 23) (.tmp 24) 22 rfl w2.heap.size 5 i0 _ Try.underlying22 hi0 hz0 hz1 hz2 rfl (.slice (some ⟨w2.heap.size, 0, none⟩) 0 0) 0 [] rfl (own_empty w2 _ _ (Nat.le_refl _)) w2.heap.size (some ⟨gm, 0, none⟩) (n + 4) cm (Cr.mark l) rfl HMl.out ((Rd.of_own HM.out).below HB22.out) (by omega) HB22.out.size ?_
               intro v3 w3 hown3 hg3 hat3
               have HB3 := Lib.hid (below_app HB22.out (own_empty w2 _ _ (Nat.le_refl _)) (Nat.le_refl _) HB22.out.size hg3)
               have HW3 := Lib.hid hown3
               clear hat3 hg3 hown3)
  obtain ⟨K, ck, rfl⟩ := own_slice HW3.out
  have hw3 := HW3.out
  rw [Nat.zero_add, List.nil_append] at hw3
  rw [Nat.zero_add]
  have HK := Lib.hid hw3
  have HMr := Lib.hid (((Rd.of_own HM.out).below HB3.out).more HB3.out.size)
  clear hw3 HW3
  refine (fits_mark ⟨gm, 0, none⟩ n cm l w3 HL.out hcm (by omega) HMr.out).mono ?_
  rintro e w4 ⟨X, cx, rfl, ho4, hb4⟩
  have HT := Lib.hid (turned_start ho4 HL.out)
  have HB4 := Lib.hid hb4
  clear ho4 hb4
  go_wp2_with fail
  go_loopw [10] (fun i wr => ∃ k : Nat, k ≤ n ∧ i = .int .i64 k ∧ Hid (Turned w4 wr w3.heap.size (.slice X n cx) n)) (fun i _ => n - (intOf i).toNat)
  case atStart => exact ⟨0, Nat.zero_le _, rfl, HT⟩
  case round =>
    obtain ⟨k, hk, rfl, HTk⟩ := hrel
    by_cases hlt : k < n
    · obtain ⟨g, u, rfl, hcell, hfr, hset⟩ := HTk.out.at hlt
      have HS := Lib.hid hset
      have hu := u.toNat_lt
      clear hset
      go_wp2
      go_roundw
      case rel => exact ⟨k + 1, by omega, by go_num, Lib.hid (by rw [xor_u8]; exact HS.out _)⟩
      case measure => simp [intOf]; omega
    · generalize wr = w5 at *
      have hb5 : Below w3.heap.size w3 w5 := HB4.out.trans (HTk.out.below (Nat.le_refl _) HB4.out.size)
      have hm5 := own_below (own_below HM.out HB3.out) hb5
      have hk5 := own_below HK.out hb5
      have hb51 : Below w1.heap.size w1 w5 := (HB2.out.trans (HB3.out.mono HB2.out.size)).trans (hb5.mono (Nat.le_trans HB2.out.size HB3.out.size))
      have HT5 := Lib.hid (turned_start hm5 HMl.out)
      have HK5 := Lib.hid hk5
      have HB51 := Lib.hid hb51
      clear hb5 hm5 hk5 hb51
      go_wp2_with fail
      go_loopw [11] (fun i wq => ∃ k : Nat, k ≤ n + 4 ∧ i = .int .i64 k ∧ Hid (Turned w5 wq w1.heap.size (.slice (some ⟨gm, 0, none⟩) (n + 4) cm) (n + 4))) (fun i _ => n + 4 - (intOf i).toNat)
      case atStart => exact ⟨0, Nat.zero_le _, rfl, HT5⟩
      case round =>
        obtain ⟨j, hj, rfl, HTj⟩ := hrel
        by_cases hjlt : j < n + 4
        · obtain ⟨g, u, hgg, hcell, hfr, hset⟩ := HTj.out.at hjlt
          have hg2 : gm = g := by injection hgg with hgg; injection hgg
          subst hg2
          have HS := Lib.hid hset
          have hu := u.toNat_lt
          clear hset hgg
          go_wp2
          go_roundw
          case rel => exact ⟨j + 1, by omega, by go_num, Lib.hid (by rw [xor_u8]; exact HS.out _)⟩
          case measure => simp [intOf]; omega
        · have hb6 : Below w1.heap.size w1 wr := HB51.out.trans (HTj.out.below (Nat.le_refl _) HB51.out.size)
          have hk6 := kept_other HK5.out HTj.out (by have := HGM.out; exact this)
          obtain ⟨gk, ck', hkv, -, hgk⟩ := hk6.form (by omega)
          injection hkv with hk1 hk2 hk3
          subst hk1 hk3
          have hck := own_cap hk6 (by omega)
          have HRk := Lib.hid (Rd.of_own hk6)
          have HB6 := Lib.hid hb6
          clear hb6 hk6 hgk
          go_wp2_with fail
          refine (fits_mark ⟨gk, 0, none⟩ n ck l wr HL.out hck (by omega) HRk.out).mono ?_
          rintro e w7 ⟨X7, c7, rfl, ho7, hb7⟩
          have HB7 := Lib.hid (HB6.out.trans (hb7.mono HB6.out.size))
          have k1 := str_any X7 n c7 l w7 _ HL.out (Rd.of_own ho7)
          have k2 := str_any Wa n cw l w7 _ HL.out (HRw.out.below HB7.out)
          have k3 := str_any A n c l w7 _ HL.out (HRb.out.below HB7.out)
          clear ho7 hb7
          go_wp2_with (go_at_call 7; refine (awake_any _).mono ?_; rintro e w8 ⟨rfl, hb8⟩)
          go_ret
          exact ⟨rfl, (HB1.out.trans (HB7.out.mono HB1.out.size)).trans (hb8.mono (Nat.le_trans HB1.out.size HB7.out.size))⟩
theorem own_long_law (A : Option Addr) (n c : Nat) (y : Int) (w : World) (hn : 1000 < n) :
    Calls Try.prog 6 #[.slice A n c, .int .u8 y] w fun e w' => e = .returned (.bool true) ∧ Below w.heap.size w w' := by
  have h1 : decide ((1000 : Int) < (n : Int)) = true := by simp; omega
  go_enter Try.func6, Try.ntmps6
  go_wp2_with (go_at_call 7; refine (awake_any _).mono ?_; rintro e w1 ⟨rfl, hb⟩)
  go_ret
  exact ⟨rfl, hb⟩
open Go.ChangeShapes Go.WideShapes Go.ChangeAt Go.Joins
set_option maxRecDepth 100000 in
theorem crcOwn_lifted (os : Os) (started : os.Started) (H : Type) (enc : TypeId × Value → H) :
    ReturnsInHanded {} Try.checked os 6 .any (Rows.crcOwnSpec.pre6 enc Try.prog Try.f6 Rows.crcOwnRow.domain false) (Rows.crcOwnSpec.post enc Try.prog Try.f6 false true false false) := by
  refine returnsInHanded_of_change (C := Try.checked) own started (by kernel_rfl) Try.func6
    (ChangeSpec.witness6 (enc := enc) (C := Try.checked) false ⟨#[], #[.slice none 0 0, .int .u8 0], []⟩ 8 (by kernel_rfl) (by kernel_rfl) (by kernel_rfl) (by kernel_rfl)) ?_
  intro W base args ds gs before hval0 hW hcnd _
  have hval : ∀ (j : Nat) t v, Try.f6.params[j]? = some t → args[j]? = some v → Value.okWide Try.prog W .any base t v := hval0
  have hW' := hW
  obtain ⟨p, q, hA0, hV, rfl, hfz, hnd⟩ := hW
  have hA : DataW.TrodAll enc Try.prog W 0 (fun _ => true) true Try.f6.params.toList args.toList ds p := hA0
  rw [Try.params6] at hA hval
  obtain ⟨v0, v1, d0, d1, p0, p1, rfl, rfl, rfl, h0, h1⟩ := trodAll_two hA
  obtain ⟨A, n, c, l, rfl, hl, hc, hc63, hr⟩ := open_bytes Try.underlying22 Try.underlying5 cells_u8 (hval 0 22 v0 rfl rfl) h0
  obtain ⟨y, rfl, -, -, wy⟩ := open_int Try.underlying5 (hval 1 5 v1 rfl rfl) h1
  have hy : 0 ≤ y ∧ y < 256 := by simp [Lit.wf, IntKind.min, IntKind.max, IntKind.bits, IntKind.signed] at wy; omega
  have hy8 : y = ((UInt8.ofNat y.toNat).toNat : Int) := by rw [UInt8.toNat_ofNat']; omega
  have hwalk : Calls Try.prog 6 #[.slice A n c, .int .u8 y] W fun e w' => e = .returned (.bool true) ∧ Below W.heap.size W w' := by
    by_cases h : 1000 < n
    · exact own_long_law A n c y W h
    · rw [hy8]
      exact own_law A n c l _ W hl (by omega) hr
  refine hwalk.mono fun e W' ⟨he, hb⟩ => ?_
  subst he
  exact ⟨_, rfl, Lw.post_true laidOut (by kernel_rfl) rfl rfl rfl rfl (by kernel_rfl) Try.underlying4 hW' hb⟩

/-- CrcOwn: what was marked, or fits, is memory of one's own. -/
theorem crcOwn_holds : Rows.CrcOwnSaid :=
  OpenClaim.holds_of_wide 6 Try.f6 rfl rfl rfl rfl rfl rfl rfl ⟨rfl, rfl, rfl, rfl, rfl⟩ rfl rfl rfl rfl rfl (by kernel_rfl) Try.func6 (by kernel_rfl)
    (of_decide_eq_true (by kernel_rfl)) (by unfold Func.isWrapper; rw [if_neg (of_decide_eq_false (by kernel_rfl))]; exact ⟨rfl, rfl⟩)
    (fun os started H enc _ => crcOwn_lifted os started H enc)
#print axioms crcOwn_holds
end Go.Proofs.Yteonfodeddaoiaa
