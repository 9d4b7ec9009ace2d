/- AliasPuts's law. -/
import Derived.Test.YtimladmphcipfaaAlG
import Derived.Test.YtimladmphcipfaaAlW
import Derived.Test.YtimladmphcipfaaAlK
import Derived.Test.YtimladmphcipfaaAlE
import Derived.ProofKit
import Derived.Lib.SmallJoins
import Derived.Laws.Concat
namespace Go.Proofs.Ytimladmphcipfaa
open Go.RowKit Me Va Al

/-- What is known of each slot where the bytes are compared. -/
def apG (A X L : Option Addr) (n c k d m e : Nat) (b en : List UInt8) : Gw.Fact := fun t v w =>
  match t with
  | 0 | 28 => v = .slice A n c
  | 1 | 30 => v = .slice L m e
  | 7 | 26 => v = .slice X k d
  | 27 | 33 => v = .string ⟨(b ++ en).toArray⟩
  | 29 => v = .string ⟨b.toArray⟩
  | 31 => ∃ Y n2 c2, v = .slice Y n2 c2 ∧ en.length = n2 ∧ Rd w w.heap.size Y en
  | 32 => v = .string ⟨en.toArray⟩
  | 34 => v = .bool false
  | _ => True
theorem encT_length : ∀ (T : List CelD), (∀ c ∈ T, c.cut < 18446744073709551616 ∧ c.oth < 4294967296) → (encT T).length ≤ T.length * 20
  | [], _ => Nat.le_refl _
  | c :: T, h => by
    have h1 := encT_length T fun x hx => h x (List.mem_cons_of_mem _ hx)
    obtain ⟨h2, h3⟩ := h c (List.mem_cons_self ..)
    have h4 := enc_ten h2
    have h5 := enc_ten (n := c.oth) (by omega)
    have e : encT (c :: T) = (enc c.cut ++ enc c.oth) ++ encT T := by unfold encT; rw [List.flatMap_cons]
    rw [e, List.length_append, List.length_append, List.length_cons]
    omega
theorem all_take {T : List CelD} {k : Nat} {c : CelD} {p : CelD → Bool} (h : T[k]? = some c) : (T.take (k + 1)).all p = ((T.take k).all p && p c) := by
  rw [List.take_add_one, h, List.all_append]
  simp
set_option maxRecDepth 100000 in
set_option maxHeartbeats 4000000 in
theorem aliasPuts_law (A : Option Addr) (n c : Nat) (b : List UInt8) (L : Option Addr) (m e : Nat) (T : List CelD) (s : Nat) (w : World) (hb : b.length = n) (hn : n ≤ 100) (hr : Rd w w.heap.size A b) (hl : T.length = m) (hm : m ≤ 100) (ha : Cels w w.heap.size L T) (hs : s < 18446744073709551616) :
    Calls Try.prog 7 #[.slice A n c, .slice L m e, .int .u64 (s : Int)] w fun e w' => e = .returned (.bool true) ∧ Below w.heap.size w w' := by
  obtain ⟨i0, hi0, hz0, hz1, hz2⟩ := info_parts u8_info
  have d1 : ¬ (100 : Int) < (m : Int) := by omega
  have d2 : ¬ (100 : Int) < (n : Int) := by omega
  have hb0 : Below w.heap.size w (w.alloc (.cells #[] 5)) := (Below.refl _ _).alloc (Nat.le_refl _) _
  have HB := Lib.hid hb
  have HR := Lib.hid hr
  have HL := Lib.hid hl
  have HA := Lib.hid ha
  have HB0 := Lib.hid hb0
  have HAW := Lib.hid awake16_any
  have HEN := Lib.hid (show (encT T).length ≤ 2000 by have := encT_length T ha.2; rw [hl] at this; omega)
  clear hb hr hl ha hb0
  go_enter Try.func7, Try.ntmps7
  go_wp2_with (at_builtin
               refine wpList_app rfl (.tmp 21) (.tmp 22) 43 rfl w.heap.size 5 i0 _ Try.underlying43 hi0 hz0 hz1 hz2 rfl (.slice (some ⟨w.heap.size, 0, none⟩) 0 0) 0 [] rfl (own_empty w _ _ (Nat.le_refl _)) w.heap.size A n c b rfl HB.out (HR.out.below HB0.out) (by omega) HB0.out.size ?_
               intro v1 w1 hown1 hg1 hat1
               have HB1 := Lib.hid (below_app HB0.out (own_empty w _ _ (Nat.le_refl _)) (Nat.le_refl _) HB0.out.size hg1)
               have HW1 := Lib.hid hown1
               clear hat1 hg1 hown1)
  obtain ⟨A1, c1, rfl⟩ := own_slice HW1.out
  have hw1 := HW1.out
  rw [Nat.zero_add, List.nil_append] at hw1
  rw [Nat.zero_add]
  have HR1 := Lib.hid (Rd.of_own hw1)
  clear hw1 HW1
  refine (tput_any A1 n c1 b L m e T w1 HB.out (by omega) HR1.out HL.out (by omega) ((HA.out.below HB1.out).more HB1.out.size)).mono ?_
  intro e1 w2 h2
  obtain ⟨X, k, d, rfl, hlx, hkd, -, hrx, hbx⟩ := h2.open
  have HX := Lib.hid hrx
  have HLX := Lib.hid hlx
  have HB2 := Lib.hid (HB1.out.trans (hbx.mono HB1.out.size))
  clear h2 hlx hrx hbx HR1
  have hk : k ≤ 2100 := by have h1 := HLX.out; rw [List.length_append, HB.out] at h1; have := HEN.out; omega
  have hnk : n ≤ k := by have h1 := HLX.out; rw [List.length_append, HB.out] at h1; omega
  have HR2 := Lib.hid ((HR.out.below HB2.out).more HB2.out.size)
  have HA2 := Lib.hid ((HA.out.below HB2.out).more HB2.out.size)
  go_wp2_with fail
  refine Gw.wp_region_grow (apG A X L n c k d m e b (encT T)) [26, 27, 28, 29, 30, 31, 32, 33, 34] [([7], none), ([26], none), ([0], none), ([28], none), ([1], none), ([30], none), ([31], none), ([29, 32], none), ([27, 33], none)] 97 (by kernel_rfl) (by kernel_rfl) rfl ?h0 ?hreq ?hend
  case h0 =>
    intro t W hnd _
    unfold apG
    split <;> first | rfl | trivial | exact absurd (by simp) hnd
  case hreq =>
    refine ⟨?_, ?_, ?_, ?_, ?_, ?_, ?_, ?_, ?_, trivial⟩
    all_goals
      intro a W hg hk
      have hg' : Below w2.heap.size w2 W := hg
      have k1 := str_any X k d (b ++ encT T) W _ HLX.out (HX.out.below hg')
      have k2 := str_any A n c b W _ HB.out (HR2.out.below hg')
      have k4 := run_string_add_lists (P := Try.prog) W b (encT T) (by rw [HB.out]; omega) (by have := HEN.out; omega)
      simp only [Gw.Knows, apG] at hk
      try (simp [go_sem, Gw.OpReq, Gw.Ok, Gw.Post, Gw.Holds, apG, Gw.Grows.refl, hk, k1, k2, k4]; done)
    · simp [go_sem, Gw.OpReq, Gw.Ok, Gw.Post, Gw.Holds, apG, Gw.Grows.refl, hk]
      refine (reftput_any L m e T W HL.out (by omega) ((HA2.out.below hg').more (Below.size hg'))).mono ?_
      intro e5 w10 h
      obtain ⟨Y, n2, c2, rfl, hl2, hc2, -, hr2, hb2⟩ := h.open
      exact ⟨_, rfl, hb2, fun W2 hW2 => ⟨Y, n2, ⟨c2, rfl⟩, hl2, (hr2.below hW2).more (Below.size hW2)⟩⟩
    · obtain ⟨⟨Y, n2, c2, he, hl2, hr2⟩, -⟩ := hk
      have k5 := str_any Y n2 c2 (encT T) W _ hl2 hr2
      simp [go_sem, Gw.OpReq, Gw.Ok, Gw.Post, Gw.Holds, apG, Gw.Grows.refl, he, k5]
  case hend =>
    intro x w3 hg hx
    have h4 : x 34 = .bool false := (hx 34 (by simp)).now
    have hg' : Below w2.heap.size w2 w3 := hg
    have HB3 := Lib.hid (HB2.out.trans (hg'.mono HB2.out.size))
    have HX3 := Lib.hid ((HX.out.below hg').more hg'.size)
    have HA3 := Lib.hid ((HA2.out.below hg').more hg'.size)
    simp only [Gw.putAll, Act.put, List.setIfInBounds_toArray, List.set_cons_zero, List.set_cons_succ]
    rw [h4]
    clear hg hg' hx h4 HX HA2 HR2
    have v1 : IntKind.u64.wrap (m : Int) = (m : Int) := IntWalk.u64_in _ (by omega)
    go_wp2
    go_loop [8, 9] (fun qv i => ∃ (j : Nat) (q : Bool), j ≤ m ∧ i = .int .i64 j ∧ qv = .bool q ∧ Hid (q = (T.take j).all (okCel s m))) (fun _ i => m - (intOf i).toNat)
    case atStart => exact ⟨0, true, Nat.zero_le _, rfl, rfl, Lib.hid rfl⟩
    case round =>
      obtain ⟨j, q, hj, rfl, rfl, HQ⟩ := hrel
      by_cases hlt : j < m
      · have hlt2 : (j : Int) < (m : Int) := by omega
        obtain ⟨a, x, rfl, hx, ha, h0, h1, h2, h3⟩ := HA3.out.at (k := j) (by rw [HL.out]; exact hlt)
        have HST := Lib.hid (all_take (p := okCel s m) hx)
        have v2 : IntKind.u64.wrap (x.oth : Int) = (x.oth : Int) := IntWalk.u64_in _ (by omega)
        clear hx
        cases q with
        | false =>
          have HQ2 := Lib.hid (show false = (T.take (j + 1)).all (okCel s m) by rw [HST.out, ← HQ.out]; rfl)
          go_wp2
          go_round
          case rel => exact ⟨j + 1, false, by omega, by go_num, rfl, HQ2⟩
          case measure => simp [intOf]; omega
        | true =>
          by_cases c1 : x.cut ≤ s
          · have e1 : (x.cut : Int) ≤ (s : Int) := by omega
            by_cases c2 : x.oth < m
            · have e2 : (x.oth : Int) < (m : Int) := by omega
              have HQ2 := Lib.hid (show true = (T.take (j + 1)).all (okCel s m) by rw [HST.out, ← HQ.out]; unfold okCel; simp [c1, c2])
              go_wp2
              go_round
              case rel => exact ⟨j + 1, true, by omega, by go_num, rfl, HQ2⟩
              case measure => simp [intOf]; omega
            · have e2 : ¬ (x.oth : Int) < (m : Int) := by omega
              have HQ2 := Lib.hid (show false = (T.take (j + 1)).all (okCel s m) by rw [HST.out, ← HQ.out]; unfold okCel; simp [c2])
              go_wp2
              go_round
              case rel => exact ⟨j + 1, false, by omega, by go_num, rfl, HQ2⟩
              case measure => simp [intOf]; omega
          · have e1 : ¬ (x.cut : Int) ≤ (s : Int) := by omega
            have HQ2 := Lib.hid (show false = (T.take (j + 1)).all (okCel s m) by rw [HST.out, ← HQ.out]; unfold okCel; simp [c1])
            go_wp2
            go_round
            case rel => exact ⟨j + 1, false, by omega, by go_num, rfl, HQ2⟩
            case measure => simp [intOf]; omega
      · have e : m = j := by omega
        subst e
        have HALL := Lib.hid (show q = T.all (okCel s m) by rw [HQ.out, List.take_of_length_le (by rw [HL.out]; omega)])
        have hnk2 : (n : Int) ≤ (k : Int) := by omega
        have hkd2 : (k : Int) ≤ (d : Int) := by omega
        go_upto_region 11 with fail
        go_cut [10] (fun sv wx => ∃ g : Nat, sv = .pointer (some ⟨g, 0, none⟩) ∧ Hid (w.heap.size ≤ g ∧ Rdr wx g (encT T) 0 ∧ Below w.heap.size w wx))
        case first =>
          have hlen := HLX.out
          rw [List.length_append, HB.out] at hlen
          obtain ⟨ln, hln⟩ : ∃ ln, ln = (encT T).length := ⟨_, rfl⟩
          rw [← hln] at hlen
          have HLN := Lib.hid hln
          have hsub : (k : Int) - (n : Int) = (ln : Int) := by omega
          have hdr := (HX3.out).drop (k := n) (cap := d) (by rw [HLX.out]; omega)
          rw [show (b ++ encT T).drop n = encT T by rw [← HB.out]; simp] at hdr
          have hkd : k ≤ d := hkd
          have HNW := Lib.hid (show ∀ (Y : Option Addr) (dY W3 : Nat) (_ : W3 = ln) (_ : Rd w3 w3.heap.size Y (encT T)), Calls Try.prog 22 #[.slice Y W3 dY] w3 (NewPost w3 (encT T)) from fun Y dY W3 hW hR => new_any Y W3 dY (encT T) w3 (by rw [hW, hln]) (by have := HEN.out; omega) hR)
          clear hln HLN
          cases X with
          | none =>
            have hk0 : k = 0 := by
              rcases Nat.eq_zero_or_pos k with e | e
              · exact e
              · obtain ⟨a, ea, -⟩ := HX3.out (by rw [HLX.out]; omega)
                cases ea
            have hn0 : n = 0 := by omega
            subst hk0
            subst hn0
            have HL0 := Lib.hid (show 0 = ln by omega)
            have HDR := Lib.hid (show Rd w3 w3.heap.size none (encT T) from by
              rcases Nat.eq_zero_or_pos d with e | e
              · rw [if_pos e] at hdr; exact hdr
              · rw [if_neg (by omega)] at hdr; exact hdr)
            clear hdr
            go_wp2_with fail
            refine (HNW.out none _ _ HL0.out HDR.out).mono ?_
            rintro e w4 ⟨g, rfl, hg4, hs4, hrd4, hb4⟩
            have HG := Lib.hid (show w.heap.size ≤ g ∧ Rdr w4 g (encT T) 0 ∧ Below w.heap.size w w4 from ⟨Nat.le_trans HB3.out.size hg4, hrd4, HB3.out.trans (hb4.mono HB3.out.size)⟩)
            clear hg4 hs4 hrd4 hb4
            go_wp2_with fail
            go_meet
            exact ⟨g, rfl, HG⟩
          | some a =>
            by_cases hdn : d = n
            · rw [if_pos hdn] at hdr
              have HDR := Lib.hid hdr
              have hkn : k = n := by omega
              subst hkn
              subst hdn
              have HL0 := Lib.hid (show 0 = ln by omega)
              clear hdr
              go_wp2_with fail
              refine (HNW.out (some a) _ _ HL0.out HDR.out).mono ?_
              rintro e w4 ⟨g, rfl, hg4, hs4, hrd4, hb4⟩
              have HG := Lib.hid (show w.heap.size ≤ g ∧ Rdr w4 g (encT T) 0 ∧ Below w.heap.size w w4 from ⟨Nat.le_trans HB3.out.size hg4, hrd4, HB3.out.trans (hb4.mono HB3.out.size)⟩)
              clear hg4 hs4 hrd4 hb4
              go_wp2_with fail
              go_meet
              exact ⟨g, rfl, HG⟩
            · rw [if_neg hdn] at hdr
              have HDR := Lib.hid hdr
              clear hdr
              go_wp2_with fail
              refine (HNW.out (some (a.add n)) _ _ (by omega) HDR.out).mono ?_
              rintro e w4 ⟨g, rfl, hg4, hs4, hrd4, hb4⟩
              have HG := Lib.hid (show w.heap.size ≤ g ∧ Rdr w4 g (encT T) 0 ∧ Below w.heap.size w w4 from ⟨Nat.le_trans HB3.out.size hg4, hrd4, HB3.out.trans (hb4.mono HB3.out.size)⟩)
              clear hg4 hs4 hrd4 hb4
              go_wp2_with fail
              go_meet
              exact ⟨g, rfl, HG⟩
        case rest =>
          obtain ⟨g, rfl, HG⟩ := hcut
          obtain ⟨hgw, hrd, hbw⟩ := HG.out
          have HTG := Lib.hid (tget_any g m s T wc HL.out (by omega) hs HA.out.2 hrd)
          have HBW := Lib.hid hbw
          have HA4 := Lib.hid ((HA.out.below hbw).more hbw.size)
          have HGW := Lib.hid hgw
          clear HX3 HA3 hgw hrd hbw HG
          cases q with
          | false =>
            go_wp2_with fail
            refine HTG.out.mono ?_
            rintro e w5 ⟨-, h5⟩
            obtain ⟨c5, rfl, hr5, hg5⟩ := h5 HALL.out.symm
            have HR5 := Lib.hid hr5
            have HB5 := Lib.hid (HBW.out.trans (below_past hg5 HGW.out HBW.out.size))
            clear h5 hr5 hg5
            go_wp2_with fail
            refine (err_any g [] 9 w5 HR5.out).mono ?_
            rintro e w6 ⟨rfl, rfl⟩
            go_wp2_with fail
            refine (HAW.out w5).mono ?_
            rintro e w7 ⟨rfl, hb7⟩
            have HB7 := Lib.hid (HB5.out.trans (hb7.mono HB5.out.size))
            clear hb7
            go_wp2
            go_ret
            exact ⟨rfl, HB7.out⟩
          | true =>
            go_wp2_with fail
            refine HTG.out.mono ?_
            rintro e w5 ⟨h5, -⟩
            obtain ⟨A5, c5, rfl, ho5, hr5, hg5⟩ := h5 HALL.out.symm
            have HR5 := Lib.hid hr5
            have hb5 := below_past hg5 HGW.out HBW.out.size
            have HB5 := Lib.hid (HBW.out.trans hb5)
            have HA5 := Lib.hid ((HA.out.below HB5.out).more HB5.out.size)
            have HC5 := Lib.hid (show Cels w5 w5.heap.size A5 T from ⟨Cs.of_own ho5, HA.out.2⟩)
            clear h5 ho5 hr5 hg5 hb5
            go_wp2_with fail
            refine (samec_any A5 L m c5 _ T w5 HL.out (by omega) HC5.out HA5.out).mono ?_
            rintro e w6 ⟨rfl, hb6⟩
            have HB6 := Lib.hid (HB5.out.trans (hb6.mono HB5.out.size))
            have HR6 := Lib.hid (HR5.out.past hb6)
            clear hb6
            go_wp2_with fail
            refine (end_any g [] 0 w6 HR6.out).mono ?_
            rintro e w7 ⟨rfl, rfl⟩
            have hend0 : endOf [] 0 = 0 := rfl
            rw [hend0]
            go_wp2_with fail
            refine (HAW.out w6).mono ?_
            rintro e w8 ⟨rfl, hb8⟩
            have HB8 := Lib.hid (HB6.out.trans (hb8.mono HB6.out.size))
            clear hb8
            go_wp2
            go_ret
            exact ⟨rfl, HB8.out⟩
set_option maxRecDepth 100000 in
theorem aliasPuts_all (A : Option Addr) (n c : Nat) (b : List UInt8) (L : Option Addr) (m e : Nat) (T : List CelD) (s : Nat) (w : World) (hb : b.length = n) (hr : Rd w w.heap.size A b) (hl : T.length = m) (ha : Cels w w.heap.size L T) (hs : s < 18446744073709551616) :
    Calls Try.prog 7 #[.slice A n c, .slice L m e, .int .u64 (s : Int)] w fun e w' => e = .returned (.bool true) ∧ Below w.heap.size w w' := by
  by_cases h : 100 < n
  · have h1 : (100 : Int) < (n : Int) := by omega
    clear hb hr hl ha
    go_enter Try.func7, Try.ntmps7
    go_wp2_with fail
    refine (awake16_any _).mono ?_
    rintro e w1 ⟨rfl, hb1⟩
    go_wp2
    go_ret
    exact ⟨rfl, hb1⟩
  · by_cases h' : 100 < m
    · have h1 : ¬ (100 : Int) < (n : Int) := by omega
      have h2 : (100 : Int) < (m : Int) := by omega
      clear hb hr hl ha
      go_enter Try.func7, Try.ntmps7
      go_wp2_with fail
      refine (awake16_any _).mono ?_
      rintro e w1 ⟨rfl, hb1⟩
      go_wp2
      go_ret
      exact ⟨rfl, hb1⟩
    · exact aliasPuts_law A n c b L m e T s w hb (by omega) hr hl (by omega) ha hs
end Go.Proofs.Ytimladmphcipfaa
