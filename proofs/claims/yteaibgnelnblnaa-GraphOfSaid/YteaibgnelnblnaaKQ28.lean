/- Texts put together, for a law: PqI, PqJ. -/
import Derived.Lib.ItoaNum
import Derived.Test.YteaibgnelnblnaaKQ26
section
namespace Go.Proofs.Yteaibgnelnblnaa
open Go.RowKit Me Tx Ed Mg Va

def Sd (w : World) (g : Nat) : Prop := ∃ z : Nat, z < 18446744073709551616 ∧ Blk w g [.int .u64 (z : Int)]
theorem Sd.out {w w' : World} {g : Nat} {T : Nat → Prop} (h : Sd w g) (ho : Out T w w') (hT : ¬ T g) : Sd w' g := by
  obtain ⟨z, hz, hb⟩ := h
  exact ⟨z, hz, hb.out ho hT⟩
theorem bits_u64 (op : BinOp) (x y : Int) : ∃ z : Nat, z < 18446744073709551616 ∧ bits op .u64 x y = (z : Int) := by
  unfold bits
  dsimp only
  generalize ((match op with
    | .and => (BitVec.ofInt IntKind.u64.bits x) &&& (BitVec.ofInt IntKind.u64.bits y)
    | .or => (BitVec.ofInt IntKind.u64.bits x) ||| (BitVec.ofInt IntKind.u64.bits y)
    | .xor => (BitVec.ofInt IntKind.u64.bits x) ^^^ (BitVec.ofInt IntKind.u64.bits y)
    | _ => (BitVec.ofInt IntKind.u64.bits x) &&& ~~~(BitVec.ofInt IntKind.u64.bits y)).toNat : Nat) = m
  rw [IntKind.wrap_u64]
  refine ⟨((m : Int) % 18446744073709551616).toNat, by omega, by omega⟩
set_option maxRecDepth 100000 in
set_option maxHeartbeats 2000000 in
theorem rnd_any (g : Nat) (w : World) (h : Sd w g) :
    Calls Try.prog 96 #[.pointer (some ⟨g, 0, none⟩)] w fun e w' => (∃ z : Nat, z < 18446744073709551616 ∧ e = .returned (.int .u64 (z : Int))) ∧ Sd w' g ∧ Out (fun k => k = g) w w' := by
  obtain ⟨z, hz1, hz⟩ := h
  have c0 := hz.cell (i := 0) rfl
  have f0 := hz.frozen 0
  go_enter Try.func96, Try.ntmps96
  go_wp2_with fail
  go_region
  obtain ⟨z1, hz2, e1⟩ := bits_u64 .xor (z : Int) (IntKind.u64.wrap ((z : Int) * 8192))
  rw [e1]
  have HO1 := Lib.hid (((Out.refl (fun k => k = g) w).setCell (p := ⟨g, 0, none⟩) (.inl rfl) (.int .u64 (z1 : Int))).trans (out_drew _ _))
  have HZ1 := Lib.hid (show Blk (w.setCell ⟨g, 0, none⟩ (.int .u64 (z1 : Int))).drew g [.int .u64 (z1 : Int)] from (hz.set 0 _).out (out_drew (fun _ => False) _) id)
  obtain ⟨w1, hw1⟩ : ∃ X : World, X = (w.setCell ⟨g, 0, none⟩ (.int .u64 (z1 : Int))).drew := ⟨_, rfl⟩
  rw [← hw1] at HO1 HZ1
  rw [← hw1]
  clear hw1 c0 f0 e1 hz
  have c0 := HZ1.out.cell (i := 0) rfl
  have f0 := HZ1.out.frozen 0
  go_wp2_with fail
  go_region
  obtain ⟨z2, hz2', e1⟩ := bits_u64 .xor (z1 : Int) ((z1 : Int) / 128)
  rw [e1]
  have HO2 := Lib.hid (HO1.out.trans (((Out.refl (fun k => k = g) w1).setCell (p := ⟨g, 0, none⟩) (.inl rfl) (.int .u64 (z2 : Int))).trans (out_drew _ _)))
  have HZ2 := Lib.hid (show Blk (w1.setCell ⟨g, 0, none⟩ (.int .u64 (z2 : Int))).drew g [.int .u64 (z2 : Int)] from (HZ1.out.set 0 _).out (out_drew (fun _ => False) _) id)
  obtain ⟨w2, hw1⟩ : ∃ X : World, X = (w1.setCell ⟨g, 0, none⟩ (.int .u64 (z2 : Int))).drew := ⟨_, rfl⟩
  rw [← hw1] at HO2 HZ2
  rw [← hw1]
  clear hw1 c0 f0 e1
  have c0 := HZ2.out.cell (i := 0) rfl
  have f0 := HZ2.out.frozen 0
  go_wp2_with fail
  go_region
  obtain ⟨z3, hz3', e1⟩ := bits_u64 .xor (z2 : Int) (IntKind.u64.wrap ((z2 : Int) * 131072))
  rw [e1]
  have HO3 := Lib.hid (HO2.out.trans (((Out.refl (fun k => k = g) w2).setCell (p := ⟨g, 0, none⟩) (.inl rfl) (.int .u64 (z3 : Int))).trans (out_drew _ _)))
  have HZ3 := Lib.hid (show Blk (w2.setCell ⟨g, 0, none⟩ (.int .u64 (z3 : Int))).drew g [.int .u64 (z3 : Int)] from (HZ2.out.set 0 _).out (out_drew (fun _ => False) _) id)
  obtain ⟨w3, hw1⟩ : ∃ X : World, X = (w2.setCell ⟨g, 0, none⟩ (.int .u64 (z3 : Int))).drew := ⟨_, rfl⟩
  rw [← hw1] at HO3 HZ3
  rw [← hw1]
  clear hw1 c0 f0 e1
  have c0 := HZ3.out.cell (i := 0) rfl
  go_wp2
  go_ret
  exact ⟨⟨z3, hz3', rfl⟩, ⟨z3, hz3', HZ3.out⟩, HO3.out⟩
theorem wrap_u64_nat (B : Nat) (h : B < 18446744073709551616) : IntKind.u64.wrap (B : Int) = (B : Int) := by
  rw [IntKind.wrap_u64]
  omega
theorem pow_wrap {j : Nat} (hj : j < 64) : IntKind.u64.wrap (2 ^ j) = ((2 ^ j : Nat) : Int) := by
  have h : 2 ^ j < 18446744073709551616 := by
    calc 2 ^ j ≤ 2 ^ 63 := Nat.pow_le_pow_right (by omega) (by omega)
      _ < 18446744073709551616 := by decide
  have e : ((2 ^ j : Nat) : Int) = (2 : Int) ^ j := by simp
  rw [← e]
  generalize 2 ^ j = B at h
  exact wrap_u64_nat B h
theorem len_small {l : Nat} (h0 : 0 < l) (h : l ≤ 1000000000) : Lib.bitLen l < 64 ∧ 2 ^ Lib.bitLen l ≤ 2 * l ∧ 1 ≤ 2 ^ Lib.bitLen l := by
  have hh := Lib.bitLenAux_bounds 64 l (by omega) (by omega)
  have e : Lib.bitLen l = Lib.bitLenAux 64 l := rfl
  rw [e]
  generalize Lib.bitLenAux 64 l = k at hh
  obtain ⟨h1, h2, h3⟩ := hh
  obtain ⟨m, rfl⟩ : ∃ m, k = m + 1 := ⟨k - 1, by omega⟩
  rw [Nat.add_sub_cancel] at h2
  refine ⟨?_, by rw [Nat.pow_succ]; omega, Nat.one_le_two_pow⟩
  rcases Nat.lt_or_ge (m + 1) 64 with h4 | h4
  · exact h4
  · have := Nat.pow_le_pow_right (n := 2) (by omega) (show 63 ≤ m by omega)
    omega
set_option maxRecDepth 100000 in
theorem pow2_any (l : Nat) (w : World) (h0 : 0 < l) (h : l ≤ 1000000000) :
    Calls Try.prog 95 #[.int .i64 (l : Int)] w fun e w' => e = .returned (.int .u64 ((2 ^ Lib.bitLen l : Nat) : Int)) ∧ w' = w := by
  obtain ⟨k, hk⟩ : ∃ k, k = Lib.bitLen l := ⟨_, rfl⟩
  have HB := Lib.hid (Try.bits_Len (l : Int) w (by omega) (by omega))
  rw [show ((l : Int)).toNat = l by simp, ← hk] at HB
  have hk2 := (len_small h0 h).1
  rw [← hk] at hk2
  obtain ⟨B, hBe⟩ : ∃ B, B = 2 ^ k := ⟨_, rfl⟩
  have t2 : IntKind.u64.wrap (2 ^ k) = (B : Int) := by rw [hBe]; exact pow_wrap hk2
  have hw : IntKind.u64.wrap (l : Int) = (l : Int) := wrap_u64_nat l (by omega)
  rw [← hk, ← hBe]
  clear hk hBe
  go_enter Try.func95, Try.ntmps95
  go_wp2_with fail
  refine HB.out.mono ?_
  rintro e w1 ⟨rfl, hw1⟩
  rw [hw1]
  clear hw1
  go_wp2
  go_ret
  exact ⟨rfl, rfl⟩
set_option maxRecDepth 100000 in
set_option maxHeartbeats 4000000 in
theorem break_any (base : Nat) (a0 : Addr) (n c a b : Nat) (L : List Nat) (w : World) (h : NumAt w base a0 n c L) (hab : a + 12 < b) (hb : b ≤ n) (hn : n ≤ 1000000000) :
    Calls Try.prog 85 #[.slice (some a0) n c, .int .i64 (a : Int), .int .i64 (b : Int)] w (fun e w' => e = .returned (.tuple #[]) ∧ ∃ L', Pm a b L L' ∧ NumAt w' base a0 n c L' ∧ NOut a0 w w') := by
  obtain ⟨l, hl⟩ : ∃ l, l = b - a := ⟨_, rfl⟩
  obtain ⟨q, hq⟩ : ∃ q, q = l / 4 := ⟨_, rfl⟩
  obtain ⟨q2, hq2⟩ : ∃ q2, q2 = q * 2 := ⟨_, rfl⟩
  obtain ⟨m, hm⟩ : ∃ m, m = a + q2 := ⟨_, rfl⟩
  obtain ⟨i0, hi0⟩ : ∃ i0, i0 = m - 1 := ⟨_, rfl⟩
  have d1 : (b : Int) - (a : Int) = (l : Int) := by omega
  have d2 : Int.tdiv (l : Int) 4 = (q : Int) := by rw [hq]; rfl
  have d3 : (q : Int) * 2 = (q2 : Int) := by omega
  have d5 : (a : Int) + (q2 : Int) = (m : Int) := by omega
  have d6 : (m : Int) - 1 = (i0 : Int) := by omega
  have e1 : l ≤ 1000000000 := by omega
  have e2 : q ≤ 1000000000 := by omega
  have e3 : q2 ≤ 1000000000 := by omega
  have e4 : a + 1 ≤ m ∧ m + 2 ≤ b := by omega
  have e6 : (8 : Int) ≤ (l : Int) := by omega
  have hlab : a + l = b := by omega
  have hi1 : i0 + 1 = m := by omega
  have hwl : IntKind.u64.wrap (l : Int) = (l : Int) := wrap_u64_nat l (by omega)
  obtain ⟨h64, hB2, hB1⟩ := len_small (l := l) (by omega) e1
  have HP2 := Lib.hid (fun W => pow2_any l W (by omega) e1)
  obtain ⟨B, hB⟩ : ∃ B, B = 2 ^ Lib.bitLen l := ⟨_, rfl⟩
  rw [← hB] at HP2 hB2 hB1
  obtain ⟨B1, hBB⟩ : ∃ B1, B1 = B - 1 := ⟨_, rfl⟩
  have d7 : (B : Int) - 1 = (B1 : Int) := by omega
  have d8 : B1 < 2 * l := by omega
  have d9 : IntKind.u64.wrap (B1 : Int) = (B1 : Int) := wrap_u64_nat B1 (by omega)
  obtain ⟨g, hg⟩ : ∃ g, g = w.heap.size := ⟨_, rfl⟩
  have hng : ¬ a0.block = g := by have := (h.own.lt a0.block rfl).2; omega
  have H0 := Lib.hid h
  have HGE := Lib.hid hg
  clear h hl hq hq2 hm hi0 hg hB hBB hB2 hB1 h64
  go_enter Try.func85, Try.ntmps85
  go_wp2_with fail
  refine (HP2.out _).mono ?_
  rintro e w1 ⟨rfl, hw1⟩
  rw [← HGE.out]
  have hb1 : Below w.heap.size w w1 := by rw [hw1]; exact (Below.refl _ _).alloc (Nat.le_refl _) _
  have HC1 := Lib.hid (show ∃ L', Pm a b L L' ∧ NumAt w1 base a0 n c L' from ⟨L, Pm.refl _ _ _, H0.out.past hb1⟩)
  have HO1 := Lib.hid (show NOut a0 w w1 from .of_below hb1)
  have HSD1 := Lib.hid (show Sd w1 g from ⟨l, by omega, by rw [hw1, HGE.out]; exact Blk.new w [.int .u64 (l : Int)] _⟩)
  clear hw1 hb1 H0 HP2
  go_wp2
  go_loopw [9] (fun iv wr => ∃ i : Nat, iv = .int .i64 (i : Int) ∧ i0 ≤ i ∧ i ≤ i0 + 3 ∧ Hid (∃ L', Pm a b L L' ∧ NumAt wr base a0 n c L') ∧ Hid (NOut a0 w wr) ∧ Hid (Sd wr g)) (fun iv _ => i0 + 3 - (intOf iv).toNat)
  case atStart => exact ⟨i0, rfl, Nat.le_refl _, by omega, HC1, HO1, HSD1⟩
  case round =>
    clear HC1 HO1 HSD1
    obtain ⟨i, rfl, hi0, hi3, HC, HO, HSD⟩ := hrel
    by_cases him : i ≤ m + 1
    rotate_left
    · have him2 : ¬ (i : Int) ≤ (m : Int) + 1 := by omega
      have FIN := Lib.hid (show ∃ L', Pm a b L L' ∧ NumAt wr base a0 n c L' ∧ NOut a0 w wr from by
        obtain ⟨M, h1, h2⟩ := HC.out
        exact ⟨M, h1, h2, HO.out⟩)
      go_wp2
      go_end0
      exact ⟨rfl, FIN.out⟩
    have him2 : (i : Int) ≤ (m : Int) + 1 := by omega
    have HRN := Lib.hid (rnd_any g wr HSD.out)
    go_wp2_with fail
    refine HRN.out.mono ?_
    rintro e w2 ⟨⟨z, hz, rfl⟩, hsd, ho⟩
    obtain ⟨M, hpm, hnum⟩ := HC.out
    have HPM := Lib.hid hpm
    have HN2 := Lib.hid (hnum.out ho hng)
    have HO2 := Lib.hid (HO.out.trans' ho fun j e => .inr (by rw [e]; exact Nat.le_of_eq HGE.out.symm))
    have HSD2 := Lib.hid hsd
    obtain ⟨o, hoo⟩ : ∃ o, o = z &&& B1 := ⟨_, rfl⟩
    have f0 : bits .and .u64 (z : Int) (B1 : Int) = (o : Int) := by rw [hoo]; exact u64_and_nat z B1 hz (by omega)
    have f1 : o ≤ B1 := by rw [hoo]; exact Nat.and_le_right
    clear hoo hpm hnum hsd ho HC HO HSD HRN
    by_cases hol : l ≤ o
    · have hol2 : (l : Int) ≤ (o : Int) := by omega
      obtain ⟨o2, ho2⟩ : ∃ o2, o2 = o - l := ⟨_, rfl⟩
      have f6 : (o : Int) - (l : Int) = (o2 : Int) := by omega
      obtain ⟨ao, hao⟩ : ∃ ao, ao = a + o2 := ⟨_, rfl⟩
      have f2 : (a : Int) + (o2 : Int) = (ao : Int) := by omega
      have f3 : a ≤ ao ∧ ao < b := by omega
      have f4 : (ao : Int) < (n : Int) := by omega
      have f5 : (i : Int) < (n : Int) := by omega
      have c1 : i < n := by omega
      have c2 : ao < n := by omega
      clear hao ho2
      obtain ⟨x0, xf⟩ := HN2.out.get (i := i) c1
      obtain ⟨y0, yf⟩ := HN2.out.get (i := ao) c2
      obtain ⟨x, hx⟩ : ∃ x, x = nat_ M (i) := ⟨_, rfl⟩
      obtain ⟨y, hy⟩ : ∃ x, x = nat_ M (ao) := ⟨_, rfl⟩
      rw [← hx] at x0
      rw [← hy] at y0
      obtain ⟨v', hv'⟩ := cell?_setCell_some (p := a0.add (i)) (x := .int .u32 (y : Int)) y0
      have hvf : (w2.setCell (a0.add (i)) (.int .u32 (y : Int))).frozen? (a0.add (ao)) = false := by rw [World.frozen?_setCell]; exact yf
      obtain ⟨hs1, hs2⟩ := HN2.out.swap (i := i) (j := ao) (x := x) (y := y) c1 c2 hx hy
      have HNS := Lib.hid hs1
      have HOS := Lib.hid (HO2.out.trans hs2)
      have hml : b ≤ M.length := by rw [HN2.out.len]; exact hb
      have HC3 := Lib.hid (show ∃ L', Pm a b L L' ∧ NumAt ((w2.setCell (a0.add i) (.int .u32 (y : Int))).setCell (a0.add ao) (.int .u32 (x : Int))).drew base a0 n c L' from ⟨swp M i ao, HPM.out.trans (Pm.swp (L := M) (a := a) (b := b) (i := i) (j := ao) (by omega) (by omega) f3.1 f3.2 hml), HNS.out⟩)
      have HSD3 := Lib.hid (HSD2.out.out hs2 (fun e => hng e.symm))
      clear hs1 hs2 hx hy hml HNS f3
      go_wp2_with fail
      go_region
      clear x0 xf y0 yf hv' hvf
      go_wp2
      go_roundw
      case rel => exact ⟨i + 1, by go_num, by omega, by omega, HC3, HOS, HSD3⟩
      case measure => simp [intOf]; omega
    · have hol2 : ¬ (l : Int) ≤ (o : Int) := by omega
      obtain ⟨ao, hao⟩ : ∃ ao, ao = a + o := ⟨_, rfl⟩
      have f2 : (a : Int) + (o : Int) = (ao : Int) := by omega
      have f3 : a ≤ ao ∧ ao < b := by omega
      have f4 : (ao : Int) < (n : Int) := by omega
      have f5 : (i : Int) < (n : Int) := by omega
      have c1 : i < n := by omega
      have c2 : ao < n := by omega
      clear hao
      obtain ⟨x0, xf⟩ := HN2.out.get (i := i) c1
      obtain ⟨y0, yf⟩ := HN2.out.get (i := ao) c2
      obtain ⟨x, hx⟩ : ∃ x, x = nat_ M (i) := ⟨_, rfl⟩
      obtain ⟨y, hy⟩ : ∃ x, x = nat_ M (ao) := ⟨_, rfl⟩
      rw [← hx] at x0
      rw [← hy] at y0
      obtain ⟨v', hv'⟩ := cell?_setCell_some (p := a0.add (i)) (x := .int .u32 (y : Int)) y0
      have hvf : (w2.setCell (a0.add (i)) (.int .u32 (y : Int))).frozen? (a0.add (ao)) = false := by rw [World.frozen?_setCell]; exact yf
      obtain ⟨hs1, hs2⟩ := HN2.out.swap (i := i) (j := ao) (x := x) (y := y) c1 c2 hx hy
      have HNS := Lib.hid hs1
      have HOS := Lib.hid (HO2.out.trans hs2)
      have hml : b ≤ M.length := by rw [HN2.out.len]; exact hb
      have HC3 := Lib.hid (show ∃ L', Pm a b L L' ∧ NumAt ((w2.setCell (a0.add i) (.int .u32 (y : Int))).setCell (a0.add ao) (.int .u32 (x : Int))).drew base a0 n c L' from ⟨swp M i ao, HPM.out.trans (Pm.swp (L := M) (a := a) (b := b) (i := i) (j := ao) (by omega) (by omega) f3.1 f3.2 hml), HNS.out⟩)
      have HSD3 := Lib.hid (HSD2.out.out hs2 (fun e => hng e.symm))
      clear hs1 hs2 hx hy hml HNS f3
      go_wp2_with fail
      go_region
      clear x0 xf y0 yf hv' hvf
      go_wp2
      go_roundw
      case rel => exact ⟨i + 1, by go_num, by omega, by omega, HC3, HOS, HSD3⟩
      case measure => simp [intOf]; omega
end Go.Proofs.Yteaibgnelnblnaa
end
section
namespace Go.Proofs.Yteaibgnelnblnaa
open Go.RowKit Me Tx Ed Mg Va

set_option maxRecDepth 100000 in
set_option maxHeartbeats 3000000 in
theorem pdq_any (base : Nat) (a0 : Addr) (n c : Nat) (hn : n ≤ 1000000000) : ∀ (N a b : Nat) (L : List Nat) (lim : Nat) (w : World), b - a = N → NumAt w base a0 n c L → a ≤ b → b ≤ n → lim ≤ 64 → LoOk a b L →
    Calls Try.prog 64 #[.slice (some a0) n c, .int .i64 (a : Int), .int .i64 (b : Int), .int .i64 (lim : Int)] w (NPost w base a0 n c a b L (So a b) (.tuple #[])) := by
  intro N
  induction N using Nat.strongRecOn with
  | _ N ih =>
  intro a b L lim w hN h hab hb hlim hlo
  have IH := Lib.hid ih
  have H0 := Lib.hid h
  have HLO := Lib.hid hlo
  have HLS := Lib.hid less_any
  clear ih h hlo
  go_enter Try.func64, Try.ntmps64
  go_wp2
  go_loopw [1, 2, 3, 8, 9] (fun av bv lv q1 q2 wr => ∃ (x y t : Nat) (bal par : Bool) (M : List Nat), av = .int .i64 (x : Int) ∧ bv = .int .i64 (y : Int) ∧ lv = .int .i64 (t : Int) ∧ q1 = .bool bal ∧ q2 = .bool par ∧ t ≤ 64 ∧ a ≤ x ∧ x ≤ y ∧ y ≤ b ∧ Hid (Qs a b x y L M) ∧ Hid (NumAt wr base a0 n c M) ∧ Hid (NOut a0 w wr)) (fun av bv _ _ _ _ => (intOf bv - intOf av).toNat)
  case atStart => exact ⟨a, b, lim, true, true, L, rfl, rfl, rfl, rfl, rfl, hlim, Nat.le_refl _, hab, Nat.le_refl _, Lib.hid (Qs.start hab), H0, Lib.hid (Out.refl _ _)⟩
  case round =>
    clear H0 hlim
    obtain ⟨x, y, t, bal, par, M, rfl, rfl, rfl, rfl, rfl, ht, hax, hxy, hyb, HQS, HN, HO⟩ := hrel
    obtain ⟨l, hl⟩ : ∃ l, l = y - x := ⟨_, rfl⟩
    have d1 : (y : Int) - (x : Int) = (l : Int) := by omega
    have d2 : l ≤ 1000000000 := by omega
    have hxl : x + l = y := by omega
    have hyn : y ≤ n := by omega
    clear hl
    have DONE := Lib.hid (fun (M2 : List Nat) (W W' : World) (hq : Qs a b x y L M2) (ho : NOut a0 w W) (e : Ending) (hp : NPost W base a0 n c x y M2 (So x y) (.tuple #[]) e W') => (show NPost w base a0 n c a b L (So a b) (.tuple #[]) e W' from by
      obtain ⟨h1, M3, h2, h3, h4, h5⟩ := hp
      exact ⟨h1, M3, (hq.step h2).pm, (hq.step h2).done h3, h4, ho.trans h5⟩))
    by_cases hl12 : l ≤ 12
    · have hl12i : (l : Int) ≤ 12 := by omega
      have HIN := Lib.hid (insertion_any base a0 n c x y M wr HN.out hxy hyn hn)
      go_wp2_with fail
      refine HIN.out.mono ?_
      rintro e w1 h1
      have FIN := Lib.hid (DONE.out M wr w1 HQS.out HO.out e h1)
      obtain ⟨rfl, -⟩ := h1
      clear HIN
      go_wp2
      go_end0
      exact FIN.out
    have hl12i : ¬ (l : Int) ≤ 12 := by omega
    have hx12 : x + 12 < y := by omega
    by_cases ht0 : t = 0
    · subst ht0
      have HIN := Lib.hid (heap_any base a0 n c x y M wr HN.out hxy hyn hn)
      go_wp2_with fail
      refine HIN.out.mono ?_
      rintro e w1 h1
      have FIN := Lib.hid (DONE.out M wr w1 HQS.out HO.out e h1)
      obtain ⟨rfl, -⟩ := h1
      clear HIN
      go_wp2
      go_end0
      exact FIN.out
    have ht0i : ((t : Int) == 0) = false := by rw [beq_eq_false_iff_ne]; omega
    -- patterns are broken
    go_upto_if 35 with fail
    go_cut [3] (fun s wx => ∃ (t2 : Nat) (M2 : List Nat), s = .int .i64 (t2 : Int) ∧ t2 ≤ 64 ∧ Hid (Qs a b x y L M2) ∧ Hid (NumAt wx base a0 n c M2) ∧ Hid (NOut a0 w wx))
    case first =>
      cases bal with
      | true =>
        go_wp2_with fail
        go_meet
        case rel => exact ⟨t, M, rfl, ht, HQS, HN, HO⟩
      | false =>
        have HBR := Lib.hid (break_any base a0 n c x y M wr HN.out hx12 hyn hn)
        go_wp2_with fail
        refine HBR.out.mono ?_
        rintro e w1 ⟨rfl, M2, hpm, hnum, ho⟩
        have HQ2 := Lib.hid (HQS.out.step hpm)
        have HN2 := Lib.hid hnum
        have HO2 := Lib.hid (HO.out.trans ho)
        clear hpm hnum ho HBR
        go_wp2_with fail
        go_meet
        case rel => exact ⟨t - 1, M2, by go_num, by omega, HQ2, HN2, HO2⟩
    case rest =>
    clear HQS HN HO ht0i ht0 ht
    obtain ⟨t2, M2, rfl, ht2, HQS, HN, HO⟩ := hcut
    -- the pivot
    have HPV := Lib.hid (pivot_any base a0 n c x y M2 wc HN.out hx12 hyn hn)
    go_upto_if 50 with (go_at_call 86; refine HPV.out.mono ?_; rintro e w1 ⟨p, hint, rfl, hxp, hpy, hbw⟩; have HN1 := Lib.hid (HN.out.past hbw); have HO1 := Lib.hid (HO.out.trans (.of_below hbw)); clear hbw HN HO)
    clear HPV
    go_cut [11, 12] (fun s11 s12 wx => ∃ (p2 : Nat) (hint2 : Int) (M3 : List Nat), s11 = .int .i64 (p2 : Int) ∧ s12 = .int .i64 hint2 ∧ x ≤ p2 ∧ p2 < y ∧ Hid (Qs a b x y L M3) ∧ Hid (NumAt wx base a0 n c M3) ∧ Hid (NOut a0 w wx))
    case first =>
      by_cases hh : hint = 2
      · subst hh
        have HRV := Lib.hid (reverse_any base a0 n c x y M2 w1 HN1.out (by omega) hyn hn)
        obtain ⟨y1, hy1⟩ : ∃ y1, y1 = y - 1 := ⟨_, rfl⟩
        obtain ⟨px, hpx⟩ : ∃ px, px = p - x := ⟨_, rfl⟩
        obtain ⟨p2, hp2⟩ : ∃ p2, p2 = y1 - px := ⟨_, rfl⟩
        have f1 : (y : Int) - 1 = (y1 : Int) := by omega
        have f2 : (p : Int) - (x : Int) = (px : Int) := by omega
        have f3 : (y1 : Int) - (px : Int) = (p2 : Int) := by omega
        have f4 : x ≤ p2 ∧ p2 < y := by omega
        have f5 : y1 ≤ 1000000000 := by omega
        have f6 : px ≤ 1000000000 := by omega
        have f7 : p2 ≤ 1000000000 := by omega
        clear hy1 hpx hp2
        go_wp2_with fail
        refine HRV.out.mono ?_
        rintro e w2 ⟨rfl, M3, hpm, -, hnum, ho⟩
        have HQ2 := Lib.hid (HQS.out.step hpm)
        have HN2 := Lib.hid hnum
        have HO2 := Lib.hid (HO1.out.trans ho)
        clear hpm hnum ho HRV
        go_wp2_with fail
        go_meet
        case rel => exact ⟨p2, 1, M3, rfl, rfl, f4.1, f4.2, HQ2, HN2, HO2⟩
      · have hh2 : (hint == 2) = false := by rw [beq_eq_false_iff_ne]; exact hh
        clear hh
        go_wp2_with fail
        go_meet
        case rel => exact ⟨p, hint, M2, rfl, rfl, hxp, hpy, HQS, HN1, HO1⟩
    case rest =>
    clear HQS HN1 HO1 hxp hpy
    obtain ⟨p2, hint2, M3, rfl, rfl, hxp, hpy, HQS, HN, HO⟩ := hcut
    obtain ⟨w2, hw2⟩ : ∃ X : World, X = wc := ⟨_, rfl⟩
    rw [← hw2] at HN HO
    rw [← hw2]
    clear hw2
    -- what is sorted nearly
    go_upto_region 15 with fail
    go_cut [68] (fun s wx => ∃ u : Bool, s = .bool u ∧ wx = w2)
    case first =>
      cases bal with
      | false =>
        go_wp2_with fail
        go_meet
        case rel => exact ⟨_, rfl, rfl⟩
      | true =>
        cases par with
        | false =>
          go_wp2_with fail
          go_meet
          case rel => exact ⟨_, rfl, rfl⟩
        | true =>
          go_wp2_with fail
          go_meet
          case rel => exact ⟨_, rfl, rfl⟩
    case rest =>
    obtain ⟨u, rfl, rfl⟩ := hcut
    go_upto_if 68 with fail
    go_cut [] (fun wx => ∃ M4 : List Nat, Hid (Qs a b x y L M4) ∧ Hid (NumAt wx base a0 n c M4) ∧ Hid (NOut a0 w wx))
    case first =>
      cases u with
      | false =>
        go_wp2_with fail
        go_meet
        case rel => exact ⟨M3, HQS, HN, HO⟩
      | true =>
        have HPI := Lib.hid (partial_any base a0 n c x y M3 _ HN.out (by omega) hyn hn (HQS.out.low HLO.out))
        go_wp2_with fail
        refine HPI.out.mono ?_
        rintro e w3 ⟨q, M4, rfl, hpm, hso, hnum, ho⟩
        have HQ2 := Lib.hid (HQS.out.step hpm)
        have HN2 := Lib.hid hnum
        have HO2 := Lib.hid (HO.out.trans ho)
        have HSO := Lib.hid hso
        clear hpm hnum ho hso HPI
        cases q with
        | true =>
          have FIN := Lib.hid (show NPost w base a0 n c a b L (So a b) (.tuple #[]) (.returned (.tuple #[])) w3 from ⟨rfl, M4, HQ2.out.pm, HQ2.out.done (HSO.out rfl), HN2.out, HO2.out⟩)
          go_wp2
          go_end0
          exact FIN.out
        | false =>
          go_wp2_with fail
          go_meet
          case rel => exact ⟨M4, HQ2, HN2, HO2⟩
    case rest =>
    clear HQS HN HO
    obtain ⟨M4, HQS, HN, HO⟩ := hcut
    -- what is the same
    have hpn : p2 < n := by omega
    have hpn2 : (p2 : Int) < (n : Int) := by omega
    go_upto_region 17 with fail
    obtain ⟨x1, hx1⟩ : ∃ x1, x1 = x - 1 := ⟨_, rfl⟩
    have HX1 := Lib.hid hx1
    go_cut [87] (fun s wx => ∃ q : Bool, s = .bool q ∧ Hid (q = true → 0 < x ∧ nat_ M4 p2 ≤ nat_ M4 x1) ∧ Hid (NumAt wx base a0 n c M4) ∧ Hid (NOut a0 w wx))
    case first =>
      by_cases hg : 0 < x
      · have hg2 : (0 : Int) < (x : Int) := by omega
        have f1 : (x : Int) - 1 = (x1 : Int) := by omega
        have f2 : x1 < n := by omega
        have f3 : (x1 : Int) < (n : Int) := by omega
        clear hx1
        obtain ⟨u0, uf⟩ := HN.out.get (i := x1) f2
        obtain ⟨v0, vf⟩ := HN.out.get (i := p2) hpn
        obtain ⟨u, hu⟩ : ∃ x, x = nat_ M4 (x1) := ⟨_, rfl⟩
        obtain ⟨v, hv⟩ : ∃ x, x = nat_ M4 (p2) := ⟨_, rfl⟩
        rw [← hu] at u0
        rw [← hv] at v0
        obtain ⟨q, hq⟩ : ∃ q, q = decide (u < v) := ⟨_, rfl⟩
        have HLX := Lib.hid (fun W => HLS.out u v W)
        rw [← hq] at HLX
        have HUV := Lib.hid (show (!q) = true → 0 < x ∧ nat_ M4 p2 ≤ nat_ M4 x1 from fun e => by rw [hq, hu, hv] at e; simp at e; omega)
        clear hu hv hq
        go_quiet ((go_at_call 89; exact Calls.quiet_of_same (HLX.out _)))
        have HN2 := Lib.hid (HN.out.drewN nq)
        have HO2 := Lib.hid (HO.out.trans (out_drewN _ wc nq))
        obtain ⟨W2, hW2⟩ : ∃ X : World, X = wc.drewN nq := ⟨_, rfl⟩
        rw [← hW2] at HN2 HO2
        rw [← hW2]
        clear hW2
        go_wp2_with fail
        go_meet
        case rel => exact ⟨_, rfl, HUV, HN2, HO2⟩
      · have hg2 : decide ((0 : Int) < (x : Int)) = false := by simp; omega
        go_quiet (fail)
        have HN2 := Lib.hid (HN.out.drewN nq)
        have HO2 := Lib.hid (HO.out.trans (out_drewN _ wc nq))
        obtain ⟨W2, hW2⟩ : ∃ X : World, X = wc.drewN nq := ⟨_, rfl⟩
        rw [← hW2] at HN2 HO2
        rw [← hW2]
        clear hW2
        go_wp2_with fail
        go_meet
        case rel => exact ⟨false, rfl, Lib.hid (fun h => by cases h), HN2, HO2⟩
    case rest =>
    clear HN HO hx1
    obtain ⟨q, rfl, HQ, HN, HO⟩ := hcut
    cases q with
    | true =>
      have HPE := Lib.hid (parteq_any base a0 n c x y p2 M4 wc HN.out hxp hpy hyn hn)
      go_wp2_with fail
      refine HPE.out.mono ?_
      rintro e w3 ⟨mid, M5, rfl, hpm, heq, hnum, ho⟩
      have hb1 := heq.am
      have hb2 := heq.mb
      have HQ2 := Lib.hid (show Qs a b mid y L M5 from (HQS.out.step hpm).eqs heq (hpm.all (p := fun z => nat_ M4 p2 ≤ z) fun i h1 h2 => by
        obtain ⟨h3, h4⟩ := HQ.out (by simp)
        rcases HQS.out.low HLO.out with h5 | h5
        · omega
        · have := h5 i h1 h2
          rw [HX1.out] at h4
          exact Nat.le_trans h4 this))
      have HN2 := Lib.hid hnum
      have HO2 := Lib.hid (HO.out.trans ho)
      clear hpm heq hnum ho HPE HQ
      go_wp2
      go_roundw
      case rel => exact ⟨mid, y, t2, bal, par, M5, rfl, rfl, rfl, rfl, rfl, ht2, by omega, hb2, hyb, HQ2, HN2, HO2⟩
      case measure => simp [intOf]; omega
    | false =>
      clear HQ
      have HPT := Lib.hid (partition_any base a0 n c x y p2 M4 wc HN.out hxp hpy hyn hn)
      go_upto_region 22 with (go_at_call 91; refine HPT.out.mono ?_; rintro e w3 ⟨mid, q, M5, rfl, hpm, hpt, hnum, ho⟩; have HPP := Lib.hid hpt; have HQ2 := Lib.hid (HQS.out.step hpm); have HN2 := Lib.hid hnum; have HO2 := Lib.hid (HO.out.trans ho); have hm1 := hpt.am; have hm2 := hpt.mb; clear hpm hpt hnum ho)
      clear HPT HN HO HQS
      obtain ⟨lf, hlf⟩ : ∃ lf, lf = mid - x := ⟨_, rfl⟩
      obtain ⟨rt, hrt⟩ : ∃ rt, rt = y - mid := ⟨_, rfl⟩
      obtain ⟨m1, hm1'⟩ : ∃ m1, m1 = mid + 1 := ⟨_, rfl⟩
      obtain ⟨l8, hl8⟩ : ∃ l8, l8 = l / 8 := ⟨_, rfl⟩
      have f1 : (mid : Int) - (x : Int) = (lf : Int) := by omega
      have f2 : (y : Int) - (mid : Int) = (rt : Int) := by omega
      have f3 : (mid : Int) + 1 = (m1 : Int) := by omega
      have f4 : Int.tdiv (l : Int) 8 = (l8 : Int) := by rw [hl8]; rfl
      have f5 : lf ≤ 1000000000 := by omega
      have f6 : rt ≤ 1000000000 := by omega
      have f7 : m1 ≤ 1000000000 := by omega
      have f8 : l8 ≤ 1000000000 := by omega
      have f9 : m1 = mid + 1 := hm1'
      have HM1 := Lib.hid f9
      clear hlf hrt hl8 hm1' f9
      by_cases hc : lf < rt
      · have hci : (lf : Int) < (rt : Int) := by omega
        have HRE := Lib.hid (IH.out (mid - x) (by omega) x mid M5 t2 w3 rfl HN2.out hm1 (by omega) ht2 ((HQ2.out.low HLO.out).less (by omega)))
        go_wp2_with fail
        refine HRE.out.mono ?_
        rintro e w4 ⟨rfl, M6, hpm, hso, hnum, ho⟩
        have HQ3 := Lib.hid (show Qs a b m1 y L M6 from by rw [HM1.out]; exact (HQ2.out.step (hpm.more (Nat.le_refl _) (by omega))).left (HPP.out.pmL hpm) hso)
        have HN3 := Lib.hid hnum
        have HO3 := Lib.hid (HO2.out.trans ho)
        have hm3 : m1 = mid + 1 := HM1.out
        have hm4 : x < m1 ∧ m1 ≤ y := by omega
        clear hpm hso hnum ho HRE hm3
        go_wp2
        go_roundw
        case rel => exact ⟨m1, y, t2, _, q, M6, rfl, rfl, rfl, rfl, rfl, ht2, by omega, hm4.2, hyb, HQ3, HN3, HO3⟩
        case measure => simp [intOf]; omega
      · have hci : ¬ (lf : Int) < (rt : Int) := by omega
        have HRE := Lib.hid (IH.out (y - m1) (by have := HM1.out; omega) m1 y M5 t2 w3 rfl HN2.out (by have := HM1.out; omega) hyn ht2 (.inr fun k h1 h2 => by
          have e := HM1.out
          rw [show m1 - 1 = mid by omega]
          exact HPP.out.up k (by omega) h2))
        go_wp2_with fail
        refine HRE.out.mono ?_
        rintro e w4 ⟨rfl, M6, hpm, hso, hnum, ho⟩
        have HQ3 := Lib.hid (show Qs a b x mid L M6 from by
          rw [HM1.out] at hpm hso
          exact (HQ2.out.step (hpm.more (by omega) (Nat.le_refl _))).right (HPP.out.pmR hpm) hso)
        have HN3 := Lib.hid hnum
        have HO3 := Lib.hid (HO2.out.trans ho)
        clear hpm hso hnum ho HRE
        go_wp2
        go_roundw
        case rel => exact ⟨x, mid, t2, _, q, M6, rfl, rfl, rfl, rfl, rfl, ht2, hax, hm1, by omega, HQ3, HN3, HO3⟩
        case measure => simp [intOf]; omega
theorem sorts_any {n : Nat} (hn : n ≤ 1000000000) : Sorts n := sort_by hn fun base a0 c L lim w hl h => by
  have := pdq_any base a0 n c hn n 0 n L lim w (by omega) h (by omega) (Nat.le_refl _) hl (.inl rfl)
  exact this
end Go.Proofs.Yteaibgnelnblnaa
end
