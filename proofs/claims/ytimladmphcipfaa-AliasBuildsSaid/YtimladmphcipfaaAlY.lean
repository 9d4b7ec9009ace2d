/- AliasBuilds's law. -/
import Derived.Test.YtimladmphcipfaaAlS
import Derived.Test.YtimladmphcipfaaAlW
import Derived.Test.YtimladmphcipfaaAlJ
import Derived.Test.YtimladmphcipfaaAlE
namespace Go.Proofs.Ytimladmphcipfaa
open Go.RowKit Me Va Al

set_option maxRecDepth 100000 in
set_option maxHeartbeats 4000000 in
theorem aliasBuilds_law (L : Option Addr) (n c : Nat) (l : List ArcD) (w : World) (hl : l.length = n) (hr : Arcs w w.heap.size L l) :
    Calls Try.prog 3 #[.slice L n c] w fun e w' => e = .returned (.bool true) ∧ Below w.heap.size w w' := by
  have HAW := Lib.hid awake16_any
  by_cases h100 : 100 < n
  · have h100' : (100 : Int) < (n : Int) := by omega
    clear hl hr
    go_enter Try.func3, Try.ntmps3
    go_wp2_with fail
    refine (HAW.out _).mono ?_
    rintro e w1 ⟨rfl, hb1⟩
    go_wp2
    go_ret
    exact ⟨rfl, hb1⟩
  have h100' : ¬ (100 : Int) < (n : Int) := by omega
  obtain ⟨g, hg⟩ : ∃ g, g = good l := ⟨_, rfl⟩
  have HNB := Lib.hid (show ∀ W, Below w.heap.size w W → Calls Try.prog 10 #[.slice L n c] W (fun e W' => e = .returned (.bool g) ∧ Below W.heap.size W W') from fun W hW => by
    rw [hg]; exact neigh_any L n c l W hl (by omega) ((hr.below hW).more hW.size))
  cases g with
  | false =>
    have HBD := Lib.hid (build_no L n c l w hl (by omega) hr hg.symm)
    clear hl hr hg
    go_enter Try.func3, Try.ntmps3
    go_wp2_with fail
    refine HBD.out.mono ?_
    rintro e w1 ⟨rfl, hb1⟩
    have HB1 := Lib.hid hb1
    clear hb1
    go_wp2_with fail
    refine (HNB.out w1 HB1.out).mono ?_
    rintro e w2 ⟨rfl, hb2⟩
    have HB2 := Lib.hid (HB1.out.trans (hb2.mono HB1.out.size))
    clear hb2
    go_wp2_with fail
    refine (HAW.out _).mono ?_
    rintro e w3 ⟨rfl, hb3⟩
    have HB3 := Lib.hid (HB2.out.trans (hb3.mono HB2.out.size))
    clear hb3
    go_wp2
    go_ret
    exact ⟨rfl, HB3.out⟩
  | true =>
    have HBD := Lib.hid (build_yes L n c l w hl (by omega) hr hg.symm)
    have HG := Lib.hid hg
    have HL := Lib.hid hl
    have HR := Lib.hid hr
    have hS : sumOf l < 18446744073709551616 := by have := may_sum (good_may hg.symm).2; omega
    have HS := Lib.hid hS
    clear hl hr hg hS
    go_enter Try.func3, Try.ntmps3
    go_wp2_with fail
    refine HBD.out.mono ?_
    rintro e w1 ⟨a, cT, T, rfl, ht, hT, hb1⟩
    have HB1 := Lib.hid hb1
    have HTB := Lib.hid hT
    have HTL := Lib.hid ht.len
    have HCE := Lib.hid (hT.cels (by rw [HL.out]; omega) HS.out ht)
    clear ht hT hb1
    go_wp2_with fail
    refine (HNB.out w1 HB1.out).mono ?_
    rintro e w2 ⟨rfl, hb2⟩
    have HB2 := Lib.hid (HB1.out.trans (hb2.mono HB1.out.size))
    have HCE2 := Lib.hid ((HCE.out.below hb2).more hb2.size)
    clear hb2
    go_wp2_with fail
    refine (refbuild_any L n c l w2 HL.out (by omega) ((HR.out.below HB2.out).more HB2.out.size) HG.out.symm).mono ?_
    rintro e w3 ⟨a3, c3, T3, rfl, ht3, hT3, hb3⟩
    have hTT := hT3.one HTB.out
    subst hTT
    have HB3 := Lib.hid (HB2.out.trans (hb3.mono HB2.out.size))
    have HCE3 := Lib.hid ((HCE2.out.below hb3).more hb3.size)
    have HCX := Lib.hid (hT3.cels (by rw [HL.out]; omega) HS.out ht3)
    clear ht3 hT3 hb3
    go_wp2_with fail
    refine (samec_any (some a) (some a3) n cT c3 T3 w3 HTL.out (by omega) HCE3.out HCX.out).mono ?_
    rintro e w4 ⟨rfl, hb4⟩
    have HB4 := Lib.hid (HB3.out.trans (hb4.mono HB3.out.size))
    have HCE4 := Lib.hid ((HCE3.out.below hb4).more hb4.size)
    have HMT := Lib.hid (HTB.out.may HG.out.symm)
    clear hb4
    go_wp2_with fail
    refine (refmayT_any L n c l (some a) n cT T3 w4 HL.out (by omega) HTL.out (by omega) ((HR.out.below HB4.out).more HB4.out.size) HCE4.out).mono ?_
    rw [HMT.out]
    rintro e w5 ⟨rfl, hb5⟩
    have HB5 := Lib.hid (HB4.out.trans (hb5.mono HB4.out.size))
    have HCE5 := Lib.hid ((HCE4.out.below hb5).more hb5.size)
    clear hb5
    go_wp2_with fail
    refine (mayT_any L n c l (some a) n cT T3 w5 HL.out (by omega) HTL.out (by omega) ((HR.out.below HB5.out).more HB5.out.size) HCE5.out).mono ?_
    rw [HMT.out]
    rintro e w6 ⟨rfl, hb6⟩
    have HB6 := Lib.hid (HB5.out.trans (hb6.mono HB5.out.size))
    clear hb6
    go_wp2_with fail
    refine (HAW.out _).mono ?_
    rintro e w7 ⟨rfl, hb7⟩
    have HB7 := Lib.hid (HB6.out.trans (hb7.mono HB6.out.size))
    clear hb7
    go_wp2
    go_ret
    exact ⟨rfl, HB7.out⟩
end Go.Proofs.Ytimladmphcipfaa
