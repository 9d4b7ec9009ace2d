/- The bytes of a block as a page, the document's. -/
import Derived.Test.YtledmlndlpmgdaaFitR
import Derived.Test.YtledmlndlpmgdaaPCont
namespace Go.Proofs.Ytledmlndlpmgdaa
open Go.RowKit Cr Me Pg

theorem ref_pget_short (f p : Int) (A : Option Addr) (n c : Nat) (w : World) (hn : n ≠ 128) :
    Calls Try.prog 10 #[.slice A n c, .int .u32 f, .int .u32 p] w fun e w' => FTells w [] 3 e w' := by
  have h1 : ((n : Int) == 128) = false := by rw [beq_eq_false_iff_ne]; omega
  go_enter Try.func10, Try.ntmps10
  go_wp2
  go_ret2
  exact ⟨(Below.refl _ _).alloc (Nat.le_refl _) _, _, 0, 0, rfl, rfl, by omega, Rd.empty, fun h => by simp at h⟩
set_option maxRecDepth 100000 in
theorem ref_pget_unfit (f p : Reg) (a : Addr) (c : Nat) (k : List UInt8) (w : World) (hl : k.length = 128) (hc : 128 ≤ c) (hr : Rd w w.heap.size (some a) k) (hf : (Cr.mark (k.take 124) == k) = false) :
    Calls Try.prog 10 #[.slice (some a) 128 c, .int .u32 (f.toNat : Int), .int .u32 (p.toNat : Int)] w fun e w' => FTells w [] 5 e w' := by
  have HL := Lib.hid hl
  have HR := Lib.hid hr
  have HF := Lib.hid hf
  clear hl hr hf
  go_enter Try.func10, Try.ntmps10
  go_wp2_with fail
  refine (ref_fits_long a 124 c k w HL.out hc (by omega) HR.out false HF.out).mono ?_
  rintro e w1 ⟨hb, X, cx, rfl, -, -, -⟩
  have HB := Lib.hid hb
  clear hb
  go_wp2
  go_ret2
  exact ⟨HB.out.alloc HB.out.size _, _, 0, 0, rfl, rfl, by omega, Rd.empty, fun h => by simp at h⟩
/-- What is known of each slot of the number. -/
def rpG (d : Addr) (c : Nat) (p0 p1 p2 p3 : Nat) : Gw.Fact := fun t v _ =>
  match t with
  | 8 | 24 | 28 | 34 | 40 => v = .slice (some d) 124 c
  | 25 => v = .pointer (some (d.add 8))
  | 29 => v = .pointer (some (d.add 9))
  | 35 => v = .pointer (some (d.add 10))
  | 41 => v = .pointer (some (d.add 11))
  | 26 => v = .int .u8 (p0 : Int)
  | 27 => v = .int .u64 (p0 : Int)
  | 30 => v = .int .u8 (p1 : Int)
  | 31 => v = .int .u64 (p1 : Int)
  | 32 => v = .int .u64 ((256 * p1 : Nat) : Int)
  | 33 => v = .int .u64 ((p0 + 256 * p1 : Nat) : Int)
  | 36 => v = .int .u8 (p2 : Int)
  | 37 => v = .int .u64 (p2 : Int)
  | 38 => v = .int .u64 ((65536 * p2 : Nat) : Int)
  | 39 => v = .int .u64 ((p0 + 256 * p1 + 65536 * p2 : Nat) : Int)
  | 42 => v = .int .u8 (p3 : Int)
  | 43 => v = .int .u64 (p3 : Int)
  | 44 => v = .int .u64 ((16777216 * p3 : Nat) : Int)
  | 10 | 45 => v = .int .u64 ((p0 + 256 * p1 + 65536 * p2 + 16777216 * p3 : Nat) : Int)
  | _ => True
def strOf (l : List UInt8) : Value := .string ⟨l.toArray⟩
/-- What is known of each slot of the document's three tests. -/
def rpH (d d4 : Addr) (c m : Nat) (f p : Reg) (o : List UInt8) (e1 e2 e3 : Bool) : Gw.Fact := fun t v w =>
  match t with
  | 8 | 46 => v = .slice (some d) 124 (c + 4)
  | 1 | 49 => v = .int .u32 (f.toNat : Int)
  | 2 => v = .int .u32 (p.toNat : Int)
  | 10 => v = .int .u64 (m : Int)
  | 47 => v = .slice (some d) 4 (c + 4)
  | 48 => v = strOf (o.take 4)
  | 50 => ∃ X, (∃ cx, v = .slice X 4 cx) ∧ Rd w w.heap.size X (four f)
  | 51 => v = strOf (four f)
  | 52 | 53 => v = .bool e1
  | 54 => e1 = false → v = .slice (some d) 124 (c + 4)
  | 55 => e1 = false → v = .slice (some d4) 4 c
  | 56 => e1 = false → v = strOf ((o.drop 4).take 4)
  | 57 => e1 = false → v = .int .u32 (p.toNat : Int)
  | 58 => e1 = false → ∃ X, (∃ cx, v = .slice X 4 cx) ∧ Rd w w.heap.size X (four p)
  | 59 => e1 = false → v = strOf (four p)
  | 60 => e1 = false → v = .bool e2
  | 61 | 62 => v = .bool (e1 || e2)
  | 63 => (e1 || e2) = false → v = .int .u64 (m : Int)
  | 64 => (e1 || e2) = false → v = .bool e3
  | 65 => v = .bool (e1 || e2 || e3)
  | _ => True
theorem str_neq (l m : List UInt8) (b : Bool) (hb : (!(l == m)) = b) (W : World) : (binOp .neq 9 (strOf l) (strOf m)).run Try.prog W = .ok (.bool b) W := by
  subst hb
  unfold strOf
  simp [go_sem]
theorem str_guard (x y : Operand) (l m : List UInt8) (W : World) : (eqGuard .neq 9 x y (strOf l) (strOf m)).run Try.prog W = .ok () W := by
  unfold strOf
  simp [go_sem, eqGuard]
set_option maxRecDepth 100000 in
set_option maxHeartbeats 2000000 in
theorem ref_pget_fit (f p : Reg) (a : Addr) (c : Nat) (k : List UInt8) (w : World) (hl : k.length = 128) (hc : 128 ≤ c) (hr : Rd w w.heap.size (some a) k) (hf : (Cr.mark (k.take 124) == k) = true) :
    Calls Try.prog 10 #[.slice (some a) 128 c, .int .u32 (f.toNat : Int), .int .u32 (p.toNat : Int)] w fun e w' => FTells w (getP k f p).1 (getP k f p).2 e w' := by
  obtain ⟨R, hR⟩ : ∃ R, R = getP k f p := ⟨_, rfl⟩
  rw [← hR]
  have HGP := Lib.hid hR
  have HL := Lib.hid hl
  have HR := Lib.hid hr
  have HF := Lib.hid hf
  have hlen : (k.take 124).length = 124 := by rw [List.length_take, hl]; rfl
  have HLEN := Lib.hid hlen
  clear hl hr hf hR hlen
  go_enter Try.func10, Try.ntmps10
  go_wp2_with fail
  refine (ref_fits_long a 124 c k w HL.out hc (by omega) HR.out true HF.out).mono ?_
  rintro e w1 ⟨hb, X, cx, he, hx, hnw, hcx⟩
  replace he : e = .returned (.tuple #[.slice X (k.take 124).length cx, .int .i64 0]) := he
  replace hx : Rd w1 w1.heap.size X (k.take 124) := hx
  replace hnw : 0 < (k.take 124).length → ∃ a, X = some a ∧ w.heap.size ≤ a.block := hnw
  replace hcx : (k.take 124).length ≤ cx := hcx
  rw [HLEN.out] at he hcx hnw
  subst he
  obtain ⟨o, ho⟩ : ∃ o, o = k.take 124 := ⟨_, rfl⟩
  rw [← ho] at hx
  have hol : o.length = 124 := by rw [ho, List.length_take, HL.out]; rfl
  obtain ⟨d, rfl, -⟩ := hx (by omega)
  obtain ⟨cy, rfl⟩ : ∃ cy, cx = cy + 4 := ⟨cx - 4, by omega⟩
  obtain ⟨m, hm⟩ : ∃ m, m = num (o.drop 8) := ⟨_, rfl⟩
  obtain ⟨e1, he1⟩ : ∃ e1, (!(o.take 4 == four f)) = e1 := ⟨_, rfl⟩
  obtain ⟨e2, he2⟩ : ∃ e2, (!((o.drop 4).take 4 == four p)) = e2 := ⟨_, rfl⟩
  obtain ⟨e3, he3⟩ : ∃ e3, decide (112 < m) = e3 := ⟨_, rfl⟩
  have hm32 : m < 4294967296 := by rw [hm]; exact num_lt _
  obtain ⟨u0, u1, u2, u3, hnum, c0, c1, c2, c3, hab⟩ := num_cells (by omega) hx
  rw [← hm] at hnum
  have b0 : u0.toNat < 256 := u0.toNat_lt
  have b1 : u1.toNat < 256 := u1.toNat_lt
  have b2 : u2.toNat < 256 := u2.toNat_lt
  have b3 : u3.toNat < 256 := u3.toNat_lt
  have HB := Lib.hid hb
  have HX := Lib.hid hx
  have HNW := Lib.hid (show w.heap.size ≤ d.block from by
    obtain ⟨d', e, h⟩ := hnw (by omega)
    injection e with e
    rw [e]; exact h)
  have HO := Lib.hid ho
  have HOL := Lib.hid hol
  have HM := Lib.hid hm
  have HE1 := Lib.hid he1
  have HE2 := Lib.hid he2
  have HE3 := Lib.hid he3
  have HC0 := Lib.hid c0
  have HC1 := Lib.hid c1
  have HC2 := Lib.hid c2
  have HC3 := Lib.hid c3
  clear hb hx hnw ho hol hm he1 he2 he3 c0 c1 c2 c3
  generalize u0.toNat = p0 at *
  generalize u1.toNat = p1 at *
  generalize u2.toNat = p2 at *
  generalize u3.toNat = p3 at *
  have HNUM := Lib.hid hnum
  clear hnum
  go_wp2_with fail
  refine Gw.wp_region_grow (rpG d (cy + 4) p0 p1 p2 p3) [24, 25, 26, 27, 28, 29, 30, 31, 32, 33, 34, 35, 36, 37, 38, 39, 40, 41, 42, 43, 44, 45, 10] [([8], none), ([24], none), ([25], none), ([26], none), ([8], none), ([28], none), ([29], none), ([30], none), ([31], none), ([27, 32], none), ([8], none), ([34], none), ([35], none), ([36], none), ([37], none), ([33, 38], none), ([8], none), ([40], none), ([41], none), ([42], none), ([43], none), ([39, 44], none), ([45], none)] 85 (by kernel_rfl) (by kernel_rfl) rfl ?h0 ?hreq ?hend
  case h0 =>
    intro t W hnd _
    unfold rpG
    split <;> first | rfl | trivial | exact absurd (by simp) hnd
  case hreq =>
    have v0 : IntKind.u64.wrap (p0 : Int) = p0 := by rw [IntKind.wrap_u64]; omega
    have v1 : IntKind.u64.wrap (p1 : Int) = p1 := by rw [IntKind.wrap_u64]; omega
    have v2 : IntKind.u64.wrap (p2 : Int) = p2 := by rw [IntKind.wrap_u64]; omega
    have v3 : IntKind.u64.wrap (p3 : Int) = p3 := by rw [IntKind.wrap_u64]; omega
    have x1 : IntKind.u64.wrap (256 * (p1 : Int)) = 256 * p1 := by rw [IntKind.wrap_u64]; omega
    have x2 : IntKind.u64.wrap (65536 * (p2 : Int)) = 65536 * p2 := by rw [IntKind.wrap_u64]; omega
    have x3 : IntKind.u64.wrap (16777216 * (p3 : Int)) = 16777216 * p3 := by rw [IntKind.wrap_u64]; omega
    have o1 : IntKind.u64.wrap ((p0 : Int) + 256 * (p1 : Int)) = (p0 : Int) + 256 * p1 := by rw [IntKind.wrap_u64]; omega
    have o2 : IntKind.u64.wrap ((p0 : Int) + 256 * (p1 : Int) + 65536 * (p2 : Int)) = (p0 : Int) + 256 * p1 + 65536 * p2 := by rw [IntKind.wrap_u64]; omega
    have o3 : IntKind.u64.wrap ((p0 : Int) + 256 * (p1 : Int) + 65536 * (p2 : Int) + 16777216 * (p3 : Int)) = (p0 : Int) + 256 * p1 + 65536 * p2 + 16777216 * p3 := by rw [IntKind.wrap_u64]; omega
    refine ⟨?_, ?_, ?_, ?_, ?_, ?_, ?_, ?_, ?_, ?_, ?_, ?_, ?_, ?_, ?_, ?_, ?_, ?_, ?_, ?_, ?_, ?_, ?_, trivial⟩
    all_goals
      intro ac W hg hk
      have hg' : Below w1.heap.size w1 W := hg
      have k0 : W.cell? ⟨d.block, d.off + 8, none⟩ = _ := (hg'.cell (p := d.add 8) (by rw [block_add]; exact hab)).trans HC0.out
      have k1 : W.cell? ⟨d.block, d.off + 9, none⟩ = _ := (hg'.cell (p := d.add 9) (by rw [block_add]; exact hab)).trans HC1.out
      have k2 : W.cell? ⟨d.block, d.off + 10, none⟩ = _ := (hg'.cell (p := d.add 10) (by rw [block_add]; exact hab)).trans HC2.out
      have k3 : W.cell? ⟨d.block, d.off + 11, none⟩ = _ := (hg'.cell (p := d.add 11) (by rw [block_add]; exact hab)).trans HC3.out
      simp only [Gw.Knows, rpG] at hk
      try (simp [go_sem, Gw.OpReq, Gw.Ok, Gw.Post, Gw.Holds, rpG, Gw.Grows.refl, hk, k0, k1, k2, k3, v0, v1, v2, v3, x1, x2, x3, o1, o2, o3]; done)
  case hend =>
    intro x w2 hg hx
    have h10 : x 10 = .int .u64 ((p0 + 256 * p1 + 65536 * p2 + 16777216 * p3 : Nat) : Int) := (hx 10 (by simp)).now
    rw [← HNUM.out] at h10
    have HB2 := Lib.hid (HB.out.trans (Below.mono (show Below w1.heap.size w1 w2 from hg) HB.out.size))
    have HX2 := Lib.hid ((HX.out.below hg).more (Below.size hg))
    simp only [Gw.putAll, Act.put, List.setIfInBounds_toArray, List.set_cons_zero, List.set_cons_succ]
    rw [h10]
    clear h10 hx hg HC0 HC1 HC2 HC3 HNUM
    generalize x 24 = y24
    generalize x 25 = y25
    generalize x 26 = y26
    generalize x 27 = y27
    generalize x 28 = y28
    generalize x 29 = y29
    generalize x 30 = y30
    generalize x 31 = y31
    generalize x 32 = y32
    generalize x 33 = y33
    generalize x 34 = y34
    generalize x 35 = y35
    generalize x 36 = y36
    generalize x 37 = y37
    generalize x 38 = y38
    generalize x 39 = y39
    generalize x 40 = y40
    generalize x 41 = y41
    generalize x 42 = y42
    generalize x 43 = y43
    generalize x 44 = y44
    generalize x 45 = y45
    go_wp2_with fail
    have HT4 := Lib.hid (show (o.take 4).length = 4 by rw [List.length_take, HOL.out]; rfl)
    have HD4 := Lib.hid (show ((o.drop 4).take 4).length = 4 by rw [List.length_take, List.length_drop, HOL.out]; rfl)
    obtain ⟨d4, hd4⟩ : ∃ d4, d4 = d.add 4 := ⟨_, rfl⟩
    have HA4 := Lib.hid hd4
    have HR4 := Lib.hid (show Rd w2 w2.heap.size (some d4) ((o.drop 4).take 4) from by
      have := (HX2.out.drop (k := 4) (cap := cy + 4) (by have := HOL.out; omega)).take 4
      rw [if_neg (by omega)] at this
      rw [hd4]
      exact this)
    clear hd4
    refine Gw.wp_region_grow (rpH d d4 cy m f p o e1 e2 e3) [46, 47, 48, 49, 50, 51, 52, 53, 54, 55, 56, 57, 58, 59, 60, 61, 62, 63, 64, 65] [([8], none), ([46], none), ([47], none), ([1], none), ([49], none), ([50], none), ([48, 51], none), ([52], none), ([8, 53], some (53, false)), ([54, 53], some (53, false)), ([55, 53], some (53, false)), ([2, 53], some (53, false)), ([57, 53], some (53, false)), ([58, 53], some (53, false)), ([56, 59, 53], some (53, false)), ([53, 60], none), ([61], none), ([10, 62], some (62, false)), ([63, 62], some (62, false)), ([62, 64], none)] 85 (by kernel_rfl) (by kernel_rfl) rfl ?h0 ?hreq ?hend
    case h0 =>
      intro t W hnd _
      unfold rpH
      split <;> first | rfl | trivial | exact absurd (by simp) hnd
    case hreq =>
      have e4 : (⟨d.block, d.off + 4, none⟩ : Addr) = d4 := HA4.out.symm
      have q1 : ¬ cy = 0 := by omega
      have q2 : (8 : Int) ≤ (cy : Int) + 4 := by omega
      have q4 : (4 : Int) ≤ (cy : Int) + 4 := by omega
      refine ⟨?_, ?_, ?_, ?_, ?_, ?_, ?_, ?_, ?_, ?_, ?_, ?_, ?_, ?_, ?_, ?_, ?_, ?_, ?_, ?_, trivial⟩
      all_goals
        intro ac W hg hk
        have k1 : (convert 23 9 (.slice (some d) 4 (cy + 4))).run Try.prog W = .ok (strOf (o.take 4)) W := str_any (some d) 4 (cy + 4) (o.take 4) W _ HT4.out ((HX2.out.take 4).below hg)
        have k2 : (convert 23 9 (.slice (some d4) 4 cy)).run Try.prog W = .ok (strOf ((o.drop 4).take 4)) W := str_any (some d4) 4 cy _ W _ HD4.out (HR4.out.below hg)
        have n1 := str_neq (o.take 4) (four f) e1 HE1.out W
        have n2 := str_neq ((o.drop 4).take 4) (four p) e2 HE2.out W
        have n3 : decide ((112 : Int) < (m : Int)) = e3 := by rw [← HE3.out, decide_eq_decide]; omega
        simp only [Gw.Knows, rpH] at hk
        try (cases e1 <;> cases e2 <;> (simp [go_sem, Gw.OpReq, Gw.Ok, Gw.Post, Gw.Holds, rpH, Gw.Grows.refl, hk, k1, k2, n1, n2, n3, q1, q2, q4, e4, str_guard]; done))
      · simp [go_sem, Gw.OpReq, Gw.Ok, Gw.Post, Gw.Holds, rpH, Gw.Grows.refl, hk]
        refine (ref_four_any f W).mono ?_
        rintro e w5 ⟨rfl, hr5, hb5⟩
        exact ⟨_, rfl, hb5, fun W2 hW2 => ⟨_, ⟨4, rfl⟩, (hr5.below hW2).more (Below.size hW2)⟩⟩
      · obtain ⟨⟨X, ⟨cx, he⟩, hr5⟩, -⟩ := hk
        have k3 : (convert 23 9 (.slice X 4 cx)).run Try.prog W = .ok (strOf (four f)) W := str_any X 4 cx (four f) W _ rfl hr5
        simp [go_sem, Gw.OpReq, Gw.Ok, Gw.Post, Gw.Holds, rpH, Gw.Grows.refl, he, k3]
      · cases e1
        · simp [go_sem, Gw.OpReq, Gw.Ok, Gw.Post, Gw.Holds, rpH, Gw.Grows.refl, hk]
          refine (ref_four_any p W).mono ?_
          rintro e w5 ⟨rfl, hr5, hb5⟩
          exact ⟨_, rfl, hb5, fun W2 hW2 => ⟨_, ⟨4, rfl⟩, (hr5.below hW2).more (Below.size hW2)⟩⟩
        · simp [go_sem, Gw.OpReq, Gw.Ok, Gw.Post, Gw.Holds, rpH, Gw.Grows.refl, hk]
      · cases e1
        · obtain ⟨he0, h53, -⟩ := hk
          obtain ⟨X, ⟨cx, he⟩, hr5⟩ := he0 rfl
          have k3 : (convert 23 9 (.slice X 4 cx)).run Try.prog W = .ok (strOf (four p)) W := str_any X 4 cx (four p) W _ rfl hr5
          simp [go_sem, Gw.OpReq, Gw.Ok, Gw.Post, Gw.Holds, rpH, Gw.Grows.refl, he, h53, k3]
        · simp [go_sem, Gw.OpReq, Gw.Ok, Gw.Post, Gw.Holds, rpH, hk]
    case hend =>
      intro x w3 hg hx
      have h65 : x 65 = .bool (e1 || e2 || e3) := (hx 65 (by simp)).now
      have HB3 := Lib.hid (HB2.out.trans (Below.mono (show Below w2.heap.size w2 w3 from hg) HB2.out.size))
      have HX3 := Lib.hid ((HX2.out.below hg).more (Below.size hg))
      simp only [Gw.putAll, Act.put, List.setIfInBounds_toArray, List.set_cons_zero, List.set_cons_succ]
      rw [h65]
      clear h65 hx hg HA4 HR4 HD4 HT4
      generalize x 46 = z46
      generalize x 47 = z47
      generalize x 48 = z48
      generalize x 49 = z49
      generalize x 50 = z50
      generalize x 51 = z51
      generalize x 52 = z52
      generalize x 53 = z53
      generalize x 54 = z54
      generalize x 55 = z55
      generalize x 56 = z56
      generalize x 57 = z57
      generalize x 58 = z58
      generalize x 59 = z59
      generalize x 60 = z60
      generalize x 61 = z61
      generalize x 62 = z62
      generalize x 63 = z63
      generalize x 64 = z64
      by_cases hbad : (e1 || e2 || e3) = true
      · rw [hbad]
        have HRB := Lib.hid (show R = ([], 5) from by
          rw [HGP.out]
          refine getP_bad HL.out fun ⟨h1, h2, h3⟩ => ?_
          rw [← front4, ← HO.out] at h1
          rw [← front48, ← HO.out] at h2
          rw [← front_num, ← HO.out, ← HM.out] at h3
          rw [← HE1.out, ← HE2.out, ← HE3.out, h1, h2] at hbad
          simp at hbad
          omega)
        go_wp2
        go_ret2
        rw [HRB.out]
        exact ⟨HB3.out.alloc HB3.out.size _, _, 0, 0, rfl, rfl, by omega, Rd.empty, fun h => by simp at h⟩
      · have he : e1 = false ∧ e2 = false ∧ e3 = false := by
          revert hbad
          cases e1 <;> cases e2 <;> cases e3 <;> simp
        obtain ⟨rfl, rfl, rfl⟩ := he
        have hm112 : m ≤ 112 := by have := HE3.out; rw [decide_eq_false_iff_not] at this; omega
        have HT := Lib.hid (show k.take 4 = four f ∧ (k.drop 4).take 4 = four p ∧ num (k.drop 8) = m from by
          have h1 := HE1.out
          have h2 := HE2.out
          rw [Bool.not_eq_false', beq_iff_eq] at h1 h2
          rw [HO.out, front4] at h1
          rw [HO.out, front48] at h2
          exact ⟨h1, h2, by rw [HM.out, HO.out, front_num]⟩)
        have HFB := Lib.hid (show fitB k = true by rw [fitB_of (k := 124) HL.out]; exact HF.out)
        have w0 : IntKind.i64.wrap (m : Int) = (m : Int) := by rw [IntKind.wrap_i64]; omega
        clear hbad HE1 HE2 HE3 HM hm32
        go_wp2
        go_loop [11] (fun iv => ∃ j : Nat, 12 + m ≤ j ∧ j ≤ 124 ∧ iv = .int .i64 j ∧ Hid (∀ (i : Nat) (u : UInt8), 12 + m ≤ i → i < j → k[i]? = some u → u = 0)) (fun iv => 124 - (intOf iv).toNat)
        case atStart => exact ⟨12 + m, Nat.le_refl _, by omega, by go_num, Lib.hid (fun i u h1 h2 => by omega)⟩
        case round =>
          obtain ⟨j, hj1, hj2, rfl, HZ⟩ := hrel
          by_cases hlt : j < 124
          · obtain ⟨d', u, e, -, hu, cu⟩ := HX3.out.at (k := j) (by rw [HOL.out]; exact hlt)
            injection e with e
            subst e
            have HU := Lib.hid (show k[j]? = some u by rw [← front_at k hlt, ← HO.out]; exact hu)
            have q0 : (0 : Int) ≤ (j : Int) := by omega
            have q1 : (j : Int) < 124 := by omega
            clear hu
            by_cases hu0 : u = 0
            · have d1 : ((u.toNat : Int) == 0) = true := by rw [hu0]; rfl
              have HZ2 := Lib.hid (show ∀ (i : Nat) (x : UInt8), 12 + m ≤ i → i < j + 1 → k[i]? = some x → x = 0 from fun i x h1 h2 h3 => by
                rcases Nat.lt_or_ge i j with h | h
                · exact HZ.out i x h1 h h3
                · have e : i = j := by omega
                  subst e
                  have := HU.out
                  rw [h3] at this
                  injection this with this
                  rw [this, hu0])
              clear HZ
              go_wp2
              go_round
              case rel => exact ⟨j + 1, by omega, by omega, by go_num, HZ2⟩
              case measure => simp [intOf]; omega
            · have d1 : ((u.toNat : Int) == 0) = false := by
                rw [beq_eq_false_iff_ne]
                intro e
                exact hu0 (UInt8.toNat_inj.1 (by have : (0 : UInt8).toNat = 0 := rfl; omega))
              have HRB := Lib.hid (show R = ([], 5) from by
                rw [HGP.out]
                exact getP_zero HL.out (by rw [HT.out.2.2]; exact hj1) hlt HU.out hu0)
              go_wp2
              go_ret2
              rw [HRB.out]
              exact ⟨HB3.out.alloc HB3.out.size _, _, 0, 0, rfl, rfl, by omega, Rd.empty, fun h => by simp at h⟩
          · have hj : j = 124 := by omega
            subst hj
            have HRG := Lib.hid (show R = ((k.drop 12).take m, 0) from by
              rw [HGP.out, getP_good HL.out HFB.out HT.out.1 HT.out.2.1 (by rw [HT.out.2.2]; exact hm112) (fun i u h1 h2 h3 => HZ.out i u (by rw [← HT.out.2.2]; exact h1) h2 h3), HT.out.2.2])
            have HRD := Lib.hid (show Rd w3 w3.heap.size (some (d.add 12)) ((k.drop 12).take m) from by
              have := (HX3.out.drop (k := 12) (cap := cy + 4) (by have := HOL.out; omega)).take m
              rw [if_neg (by omega), HO.out, front12 k hm112] at this
              exact this)
            have q1 : ¬ cy = 8 := by omega
            have q2 : (12 : Int) + (m : Int) ≤ (cy : Int) + 4 := by omega
            have q3 : (m : Int) + 12 ≤ (cy : Int) + 4 := by omega
            have q4 : (12 : Int) ≤ (cy : Int) + 4 := by omega
            go_wp2
            go_ret2
            rw [HRG.out]
            exact ⟨HB3.out, some (d.add 12), m, _, rfl, by rw [List.length_take, List.length_drop, HL.out]; omega, by omega, HRD.out, fun _ => ⟨_, rfl, by rw [block_add]; exact HNW.out⟩⟩
theorem ref_pget_any (f p : Reg) (A : Option Addr) (n c : Nat) (k : List UInt8) (w : World) (hl : k.length = n) (hc : n ≤ c) (hr : Rd w w.heap.size A k) :
    Calls Try.prog 10 #[.slice A n c, .int .u32 (f.toNat : Int), .int .u32 (p.toNat : Int)] w fun e w' => FTells w (getP k f p).1 (getP k f p).2 e w' := by
  by_cases hn : n = 128
  · subst hn
    obtain ⟨a, rfl, -⟩ := hr (by omega)
    obtain ⟨b, hb⟩ : ∃ b, (Cr.mark (k.take 124) == k) = b := ⟨_, rfl⟩
    cases b with
    | false =>
      rw [getP_unfit hl (by rw [fitB_of (k := 124) hl]; exact hb)]
      exact ref_pget_unfit f p a c k w hl hc hr hb
    | true => exact ref_pget_fit f p a c k w hl hc hr hb
  · rw [getP_short (by omega)]
    exact ref_pget_short _ _ A n c w hn
end Go.Proofs.Ytledmlndlpmgdaa
