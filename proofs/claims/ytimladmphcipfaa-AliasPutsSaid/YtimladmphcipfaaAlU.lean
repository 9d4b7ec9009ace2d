/- A table's bytes: Put, the program's and the document's. -/
import Derived.Test.YtimladmphcipfaaAlA
import Derived.Test.YtimladmphcipfaaPutA
namespace Go.Proofs.Ytimladmphcipfaa
open Go.RowKit Me Va Al

/-- A table's bytes. -/
def encT (T : List CelD) : List UInt8 := T.flatMap fun c => enc c.cut ++ enc c.oth
theorem encT_take {T : List CelD} {k : Nat} {c : CelD} (h : T[k]? = some c) : encT (T.take (k + 1)) = encT (T.take k) ++ (enc c.cut ++ enc c.oth) := by
  unfold encT
  rw [List.take_add_one, h, List.flatMap_append]
  simp
theorem Cels.again {w w' : World} {B k : Nat} {a : Addr} {l : List CelD} {p : CelD} (h : Cels w B (some a) l) (hb : Below B w w') (hp : l[k]? = some p) :
    w'.cell? (a.add (k * 2)) = some (.int .u64 (p.cut : Int)) ∧ w'.cell? ⟨(a.add (k * 2)).block, (a.add (k * 2)).off + 1, none⟩ = some (.int .u32 (p.oth : Int)) := by
  obtain ⟨a', p', e, hp', -, h0, h1, -, -⟩ := (h.below hb).at (k := k) (List.getElem?_eq_some_iff.1 hp).1
  injection e with e
  subst e
  rw [hp] at hp'
  injection hp' with hp'
  subst hp'
  exact ⟨h0, h1⟩
/-- What stands behind some rounds: the bytes so far. -/
def TpRel (w : World) (b : List UInt8) (T : List CelD) (k : Nat) (v : Value) (wr : World) : Prop :=
  ∃ m, m ≤ b.length + k * 20 ∧ wr.ownsRow w.heap.size 5 1 v m (cellsOf (b ++ encT (T.take k))) ∧ Below w.heap.size w wr
set_option maxRecDepth 100000 in
set_option maxHeartbeats 1000000 in
theorem tput_any (A : Option Addr) (n c : Nat) (b : List UInt8) (L : Option Addr) (m d : Nat) (T : List CelD) (w : World) (hb : b.length = n) (hn : n ≤ 1000000) (hr : Rd w w.heap.size A b)
    (hl : T.length = m) (hm : m ≤ 1000000) (ha : Cels w w.heap.size L T) :
    Calls Try.prog 20 #[.slice A n c, .slice L m d] w (News w (b ++ encT T)) := by
  obtain ⟨i0, hi0, hz0, hz1, hz2⟩ := info_parts u8_info
  have HB := Lib.hid hb
  have HR := Lib.hid hr
  have HL := Lib.hid hl
  have HA := Lib.hid ha
  clear hb hr hl ha
  go_enter Try.func20, Try.ntmps20
  go_wp2_with fail
  refine (clone_any A n c b w HB.out (by omega) HR.out).mono ?_
  rintro e w2 ⟨v, k, rfl, ho, hb2⟩
  have hk : k = b.length := by have := ho.1; rw [cellsOf_length] at this; omega
  have HREL := Lib.hid (show TpRel w b T 0 v w2 from ⟨k, by omega, by rw [List.take_zero]; simpa [encT] using ho, hb2⟩)
  clear ho hb2 hk
  go_wp2
  go_loopw [5, 13] (fun v i wr => ∃ k : Nat, k ≤ m ∧ i = .int .i64 k ∧ Hid (TpRel w b T k v wr)) (fun _ i _ => m - (intOf i).toNat)
  case atStart => exact ⟨0, Nat.zero_le _, rfl, HREL⟩
  case round =>
    clear HREL
    obtain ⟨k, hk, rfl, HP⟩ := hrel
    obtain ⟨q, hq, hown, hbw⟩ := HP.out
    rw [HB.out] at hq
    have HW := Lib.hid hown
    have HBW := Lib.hid hbw
    have hsz := hbw.size
    clear hown hbw HP
    by_cases hlt : k < m
    · have hlt' : k < T.length := by rw [HL.out]; exact hlt
      obtain ⟨a, p, rfl, hp, hab, h0, h1, h2, h3⟩ := (HA.out.below HBW.out).at hlt'
      have HP := Lib.hid hp
      clear hp hlt'
      have hp3 : p.oth < 18446744073709551616 := by omega
      have v2 : IntKind.u64.wrap (p.oth : Int) = (p.oth : Int) := IntWalk.u64_in _ (by omega)
      obtain ⟨e0, e1⟩ := new_two wr (.int .u64 (p.cut : Int)) (.int .u32 (p.oth : Int)) 40
      have HN := Lib.hid (show Below w.heap.size w (wr.alloc (.cells #[.int .u64 (p.cut : Int), .int .u32 (p.oth : Int)] 40)) from HBW.out.alloc hsz _)
      have HWN := Lib.hid (HW.out.alloc (.cells #[.int .u64 (p.cut : Int), .int .u32 (p.oth : Int)] 40))
      have hltn : wr.heap.size < (wr.alloc (.cells #[.int .u64 (p.cut : Int), .int .u32 (p.oth : Int)] 40)).heap.size := by simp
      go_wp2_with fail
      refine (put_any none 0 0 p.cut [] _ rfl (by omega) Rd.empty h2).mono ?_
      rintro e w3 h
      obtain ⟨A3, n3, c3, rfl, hl3, hc3, -, hr3, hb3⟩ := h.open
      rw [List.nil_append] at hl3 hr3
      have q0 := (hb3.cell (p := ⟨wr.heap.size, 0, none⟩) hltn).trans e0
      have q1 := (hb3.cell (p := ⟨wr.heap.size, 1, none⟩) hltn).trans e1
      have ht3 := enc_ten h2
      rw [hl3] at ht3
      have hlt3 : wr.heap.size < w3.heap.size := Nat.lt_of_lt_of_le hltn hb3.size
      have HL3 := Lib.hid hl3
      have HR3 := Lib.hid hr3
      have HN3 := Lib.hid (HN.out.trans (hb3.mono HN.out.size))
      have HW3 := Lib.hid (own_below HWN.out hb3)
      clear hl3 hr3 hb3 h e0 e1 hltn HWN HN h0 h1
      go_wp2_with fail
      refine (put_any A3 n3 c3 p.oth (enc p.cut) w3 HL3.out (by omega) HR3.out hp3).mono ?_
      rintro e w4 h
      obtain ⟨A4, n4, c4, rfl, hl4, hc4, -, hr4, hb4⟩ := h.open
      have ht4 := enc_ten hp3
      have hn4 : n4 ≤ 20 := by rw [← hl4, List.length_append, HL3.out]; omega
      have HL4 := Lib.hid hl4
      have HR4 := Lib.hid hr4
      have HN4 := Lib.hid (HN3.out.trans (hb4.mono HN3.out.size))
      have HW4 := Lib.hid (own_below HW3.out hb4)
      clear hl4 hr4 hb4 h q0 q1 HN3 HW3
      go_wp2_with (at_builtin
                   refine wpList_app rfl (.tmp 20) (.tmp 25) 43 rfl w.heap.size 5 i0 _ Try.underlying43 hi0 hz0 hz1 hz2 rfl u5 q _ rfl HW4.out w4.heap.size A4 n4 c4 _ rfl HL4.out HR4.out (by omega) HN4.out.size ?_
                   intro v5 w5 hown5 hg5 hat5
                   have HN5 := Lib.hid (below_app HN4.out HW4.out (Nat.le_refl _) HN4.out.size hg5)
                   have HW5 := Lib.hid hown5
                   clear hown5 hg5 hat5 HN4 HW4)
      have HREL := Lib.hid (show TpRel w b T (k + 1) v5 w5 from by
        refine ⟨q + n4, by rw [HB.out]; omega, ?_, HN5.out⟩
        rw [encT_take HP.out, ← List.append_assoc]
        exact HW5.out)
      clear HN5 HW5
      go_roundw
      case rel => exact ⟨k + 1, by omega, by go_num, HREL⟩
      case measure => simp [intOf]; omega
    · have HWE := Lib.hid (show wr.ownsRow w.heap.size 5 1 u5 q (cellsOf (b ++ encT T)) from by
        have := HW.out
        rw [List.take_of_length_le (by rw [HL.out]; omega)] at this
        exact this)
      go_wp2
      go_ret
      exact ⟨u5, q, rfl, HWE.out, HBW.out⟩
/-- What stands behind some rounds of the document's: the bytes so far. -/
def TrRel (w : World) (T : List CelD) (k : Nat) (v : Value) (wr : World) : Prop :=
  ∃ m, m ≤ k * 20 ∧ wr.ownsRow w.heap.size 5 1 v m (cellsOf (encT (T.take k))) ∧ Below w.heap.size w wr
set_option maxRecDepth 100000 in
set_option maxHeartbeats 1000000 in
theorem reftput_any (L : Option Addr) (m d : Nat) (T : List CelD) (w : World) (hl : T.length = m) (hm : m ≤ 1000000) (ha : Cels w w.heap.size L T) :
    Calls Try.prog 21 #[.slice L m d] w (News w (encT T)) := by
  obtain ⟨i0, hi0, hz0, hz1, hz2⟩ := info_parts u8_info
  have HL := Lib.hid hl
  have HA := Lib.hid ha
  have HREL := Lib.hid (show TrRel w T 0 (.slice (some ⟨w.heap.size, 0, none⟩) 0 0) (w.alloc (.cells #[] 5)) from
    ⟨0, Nat.le_refl _, ⟨rfl, .inr ⟨w.heap.size, 0, #[], rfl, Nat.le_refl _, heap_alloc_new w _, Nat.le_refl _, by decide, rfl, rfl⟩⟩, (Below.refl _ _).alloc (Nat.le_refl _) _⟩)
  clear hl ha
  go_enter Try.func21, Try.ntmps21
  go_wp2
  go_loopw [3, 8] (fun v i wr => ∃ k : Nat, k ≤ m ∧ i = .int .i64 k ∧ Hid (TrRel w T k v wr)) (fun _ i _ => m - (intOf i).toNat)
  case atStart => exact ⟨0, Nat.zero_le _, rfl, HREL⟩
  case round =>
    clear HREL
    obtain ⟨k, hk, rfl, HP⟩ := hrel
    obtain ⟨q, hq, hown, hbw⟩ := HP.out
    have HW := Lib.hid hown
    have HBW := Lib.hid hbw
    have hsz := hbw.size
    clear hown hbw HP
    by_cases hlt : k < m
    · have hlt' : k < T.length := by rw [HL.out]; exact hlt
      obtain ⟨a, p, rfl, hp, hab, h0, h1, h2, h3⟩ := (HA.out.below HBW.out).at hlt'
      have HP := Lib.hid hp
      clear hp hlt'
      have hp3 : p.oth < 18446744073709551616 := by omega
      have v2 : IntKind.u64.wrap (p.oth : Int) = (p.oth : Int) := IntWalk.u64_in _ (by omega)
      go_wp2_with fail
      refine (ref_num_any p.cut wr h2).mono ?_
      rintro e w3 h
      obtain ⟨A3, n3, c3, rfl, hl3, hc3, -, hr3, hb3⟩ := h.open
      have ht3 := enc_ten h2
      rw [hl3] at ht3
      have HL3 := Lib.hid hl3
      have HR3 := Lib.hid hr3
      have HN3 := Lib.hid (HBW.out.trans (hb3.mono HBW.out.size))
      have HW3 := Lib.hid (own_below HW.out hb3)
      clear hl3 hr3 hb3 h h0 h1
      go_wp2_with (at_builtin
                   refine wpList_app rfl (.tmp 11) (.tmp 17) 43 rfl w.heap.size 5 i0 _ Try.underlying43 hi0 hz0 hz1 hz2 rfl u3 q _ rfl HW3.out w3.heap.size A3 n3 c3 _ rfl HL3.out HR3.out (by omega) HN3.out.size ?_
                   intro v5 w5 hown5 hg5 hat5
                   have HN5 := Lib.hid (below_app HN3.out HW3.out (Nat.le_refl _) HN3.out.size hg5)
                   have HW5 := Lib.hid hown5
                   refine Classical.byContradiction fun hcontra => ?_
                   clear hown5 hg5 hat5 HN3 HW3)
      obtain ⟨y0, y1⟩ := HA.out.again HN5.out HP.out
      have hs5 := HN5.out.size
      apply hcontra
      clear hcontra
      go_wp2_with fail
      refine (ref_num_any p.oth w5 hp3).mono ?_
      rintro e w6 h
      obtain ⟨A6, n6, c6, rfl, hl6, hc6, -, hr6, hb6⟩ := h.open
      have ht6 := enc_ten hp3
      rw [hl6] at ht6
      have HL6 := Lib.hid hl6
      have HR6 := Lib.hid hr6
      have HN6 := Lib.hid (HN5.out.trans (hb6.mono HN5.out.size))
      have HW6 := Lib.hid (own_below HW5.out hb6)
      clear hl6 hr6 hb6 h y0 y1 HN5 HW5
      go_wp2_with (at_builtin
                   refine wpList_app rfl (.tmp 19) (.tmp 26) 43 rfl w.heap.size 5 i0 _ Try.underlying43 hi0 hz0 hz1 hz2 rfl v5 (q + n3) _ rfl HW6.out w6.heap.size A6 n6 c6 _ rfl HL6.out HR6.out (by omega) HN6.out.size ?_
                   intro v7 w7 hown7 hg7 hat7
                   have HN7 := Lib.hid (below_app HN6.out HW6.out (Nat.le_refl _) HN6.out.size hg7)
                   have HW7 := Lib.hid hown7
                   clear hown7 hg7 hat7 HN6 HW6)
      have HREL := Lib.hid (show TrRel w T (k + 1) v7 w7 from by
        refine ⟨q + n3 + n6, by omega, ?_, HN7.out⟩
        rw [encT_take HP.out, ← List.append_assoc]
        exact HW7.out)
      clear HN7 HW7
      go_roundw
      case rel => exact ⟨k + 1, by omega, by go_num, HREL⟩
      case measure => simp [intOf]; omega
    · have HWE := Lib.hid (show wr.ownsRow w.heap.size 5 1 u3 q (cellsOf (encT T)) from by
        have := HW.out
        rw [List.take_of_length_le (by rw [HL.out]; omega)] at this
        exact this)
      go_wp2
      go_ret
      exact ⟨u3, q, rfl, HWE.out, HBW.out⟩
end Go.Proofs.Ytimladmphcipfaa
