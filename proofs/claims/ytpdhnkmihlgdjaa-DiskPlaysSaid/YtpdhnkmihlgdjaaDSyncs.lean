/- DiskSyncs is proved: what was synced is there behind a fall, whatever stays of other blocks' writes; for every input, no conditions. -/
import Derived.Test.YtpdhnkmihlgdjaaAwakeD
import Derived.ProofKit
import Derived.Lib.SmallJoins
namespace Go.Proofs.Ytpdhnkmihlgdjaa
open Go.RowKit Me Rw Ds

/-- A block of a byte, beside a disk. -/
theorem filled_for {w : World} {B D : Nat} {S : Dsk} {own : Nat → Prop} (h : DiskAt w B D S own) (c : UInt8) (short : Bool) :
    Calls Try.prog 17 #[.int .u8 (c.toNat : Int), .bool short] w fun e w' => ∃ g n cap, e = .returned (.slice (some ⟨g, 0, none⟩) n cap) ∧ n = fillN short ∧ DiskAt w' B D S own ∧ Cz w' own (some ⟨g, 0, none⟩) (cellsOf (fillTo c n)) ∧ w'.ownsRow w.heap.size 5 1 (.slice (some ⟨g, 0, none⟩) n cap) n (cellsOf (fillTo c n)) ∧ ¬ own g ∧ w.heap.size ≤ g ∧ Below w.heap.size w w' := by
  refine (filled_any c short w).mono ?_
  intro e w' hn
  obtain ⟨v, n, rfl, ho, hb⟩ := hn
  have hl := ho.1
  rw [cellsOf_length, fillTo_length, Nat.mul_one] at hl
  have hp : 0 < n := by rw [← hl]; unfold fillN; split <;> omega
  obtain ⟨g, cap, rfl, hg, hlt⟩ := ho.form hp
  have hng : ¬ own g := fun hk => by have := (h.lt hk).2; omega
  subst hl
  exact ⟨g, _, cap, rfl, rfl, h.past hb, cz_own ho (fun k hk => by injection hk with hk; subst hk; exact hng), ho, hng, hg, hb⟩
theorem settle_other {keep torn : Nat} {k : Nat} {l : List WD} {st : List (List UInt8)} {i : Nat} (h : ∀ x ∈ l, x.i ≠ i) : (Ds.settle keep torn k l st).getD i [] = st.getD i [] := by
  induction l generalizing k st with
  | nil => rfl
  | cons x l ih =>
    rw [Ds.settle, ih fun y hy => h y (by simp [hy])]
    have hx := h x (by simp)
    rw [List.getD_eq_getElem?_getD, List.getElem?_set, if_neg hx, ← List.getD_eq_getElem?_getD]
section
variable {i k : Nat} {l l' : List UInt8}
/-- The disks of the law, one behind the other. -/
def SA (i : Nat) (l : List UInt8) : Dsk := { newD 40 with pend := [⟨i, l⟩] }
def SB (i : Nat) (l : List UInt8) : Dsk := { newD 40 with stored := (List.replicate 40 zero128).set i l }
def SC (i k : Nat) (l l' : List UInt8) : Dsk := { SB i l with pend := [⟨k, l'⟩] }
theorem sy_write1 (hi : i < 40) (hl : l.length = 128) : writeD (newD 40) i l = (SA i l, 0) := by
  unfold writeD
  have hb : hasB (newD 40).stored.length (i : Int) = true := by rw [hasB_nat]; simpa [newD] using hi
  rw [if_pos (show (newD 40).on = true from rfl), if_pos hb, if_pos hl, power_neg (show (newD 40).fuse < 0 by decide), if_pos (show (newD 40).on = true from rfl)]
  rfl
theorem sy_sync (hi : i < 40) (hl : l.length = 128) : syncD (SA i l) = (SB i l, 0) := by
  unfold syncD
  rw [if_pos (show (SA i l).on = true from rfl), power_neg (show (SA i l).fuse < 0 from (by decide : (-1 : Int) < 0)), if_pos (show (SA i l).on = true from rfl)]
  have e : Ds.settle ones 0 0 (SA i l).pend (SA i l).stored = (SB i l).stored := by
    show (List.replicate 40 zero128).set i (l.take (surv ones 0 0) ++ ((List.replicate 40 zero128).getD i []).drop (surv ones 0 0)) = _
    have : surv ones 0 0 = 128 := by unfold surv; rw [if_pos (ones_bit 0)]
    have hz : ((List.replicate 40 zero128).getD i []).length = 128 := by
      rw [List.getD_eq_getElem?_getD, List.getElem?_replicate, if_pos hi]
      exact zero128_length
    rw [this, List.take_of_length_le (by omega), List.drop_of_length_le (by omega), List.append_nil]
    rfl
  rw [e]
  rfl
theorem sy_write2 (hk : k < 40) (hl : l'.length = 128) : writeD (SB i l) k l' = (SC i k l l', 0) := by
  unfold writeD
  have hb : hasB (SB i l).stored.length (k : Int) = true := by rw [hasB_nat]; simpa [SB] using hk
  rw [if_pos (show (SB i l).on = true from rfl), if_pos hb, if_pos hl, power_neg (show (SB i l).fuse < 0 from (by decide : (-1 : Int) < 0)), if_pos (show (SB i l).on = true from rfl)]
  rfl
theorem sy_read (hi : i < 40) (hik : i ≠ k) (K T : Nat) : readD (backD K T (SC i k l l')) i = l ∧ readE (backD K T (SC i k l l')) i = 0 := by
  have h : readE (backD K T (SC i k l l')) i = 0 := by
    unfold readE
    have hb : hasB (backD K T (SC i k l l')).stored.length (i : Int) = true := by rw [hasB_nat]; simpa [backD, settle_length, SC, SB] using hi
    rw [if_pos (show (backD K T (SC i k l l')).on = true from rfl), if_pos hb]
  refine ⟨?_, h⟩
  unfold readD
  rw [if_pos h]
  show (Ds.settle K T 0 [⟨k, l'⟩] ((List.replicate 40 zero128).set i l)).getD i [] = l
  rw [settle_other (fun x hx => by simp at hx; subst hx; exact fun e => hik e.symm), List.getD_eq_getElem?_getD, List.getElem?_set_self (by simpa using hi)]
  rfl
end
/-- What is known of each slot of the last region. -/
def syG (D b : Nat) (l : List UInt8) (c : UInt8) : Gw.Fact := fun t v w =>
  match t with
  | 14 | 73 | 85 => v = .int .i64 0
  | 13 | 76 => v = .slice (some ⟨b, 0, none⟩) 128 128
  | 2 | 78 => v = .int .u8 (c.toNat : Int)
  | 77 | 80 => v = .string ⟨l.toArray⟩
  | 79 => ∃ X, (∃ cap, v = .slice X 128 cap) ∧ Rd w w.heap.size X l
  | 11 | 84 => v = .pointer (some ⟨D, 0, none⟩)
  | 74 | 75 | 81 | 82 | 83 | 86 | 87 | 88 | 89 | 90 | 10 => v = .bool true
  | _ => True
set_option maxRecDepth 100000 in
set_option maxHeartbeats 4000000 in
theorem dsyncs_good (i k : Nat) (c : UInt8) (K T : Nat) (hi : i < 40) (hk : k < 40) (hik : i ≠ k) (hK : K < 18446744073709551616) (hT : T < 18446744073709551616) (w : World) :
    Calls Try.prog 4 #[.int .i64 (i : Int), .int .i64 (k : Int), .int .u8 (c.toNat : Int), .int .u64 (K : Int), .int .u64 (T : Int)] w fun e w' => e = .returned (.bool true) ∧ Below w.heap.size w w' := by
  have d1 : decide ((i : Int) < 0) = false := by simp
  have d2 : decide (40 ≤ (i : Int)) = false := by simp; omega
  have d3 : decide ((k : Int) < 0) = false := by simp
  have d4 : decide (40 ≤ (k : Int)) = false := by simp; omega
  have d5 : ((i : Int) == (k : Int)) = false := by rw [beq_eq_false_iff_ne]; omega
  have hc8 := c.toNat_lt
  obtain ⟨c7, hc7⟩ : ∃ c7 : UInt8, c7 = c + 7 := ⟨_, rfl⟩
  have t7 : IntKind.u8.wrap ((c.toNat : Int) + 7) = (c7.toNat : Int) := by
    rw [hc7, UInt8.toNat_add]
    simp [IntKind.wrap, IntKind.bits, IntKind.signed]
  have hc78 := c7.toNat_lt
  clear hc7
  go_enter Try.func4, Try.ntmps4
  go_wp2_with fail
  refine (new_any 40 (by omega) (by omega) w).mono ?_
  rintro e w1 ⟨D, own1, rfl, hd1, hb1⟩
  have HD1 := Lib.hid hd1
  have HB1 := Lib.hid hb1
  clear hd1 hb1
  go_wp2_with fail
  refine (filled_for HD1.out c false).mono ?_
  rintro e w2 ⟨g2, n2, cap2, rfl, rfl, hd2, hz2, -, -, -, hb2⟩
  have hb2' := HB1.out.trans (hb2.mono HB1.out.size)
  go_wp2_with fail
  refine (write_any hd2 i _ _ cap2 (fillTo c 128) (fillTo_length _ _) hz2 (fun a e => by injection e with e; subst e; rfl) (by simp [newD])).mono ?_
  rw [sy_write1 hi (fillTo_length _ _)]
  rintro e w3 ⟨rfl, own3, hd3, ho3, -⟩
  have HD3 := Lib.hid hd3
  have HB3 := Lib.hid (hb2'.trans (ho3.below (fun k _ hk => (hd2.lt hk).1) hb2'.size))
  clear hd2 hz2 hb2 hb2' hd3 ho3
  go_wp2_with fail
  refine (sync_any HD3.out (by simp [SA])).mono ?_
  rw [sy_sync hi (fillTo_length _ _)]
  rintro e w4 ⟨rfl, own4, hd4, ho4, -⟩
  have HD4 := Lib.hid hd4
  have HB4 := Lib.hid (HB3.out.trans (ho4.below (fun k _ hk => (HD3.out.lt hk).1) HB3.out.size))
  clear hd4 ho4
  go_wp2_with fail
  refine (filled_for HD4.out c7 false).mono ?_
  rintro e w5 ⟨g5, n5, cap5, rfl, rfl, hd5, hz5, -, -, -, hb5⟩
  have hb5' := HB4.out.trans (hb5.mono HB4.out.size)
  go_wp2_with fail
  refine (write_any hd5 k _ _ cap5 (fillTo c7 128) (fillTo_length _ _) hz5 (fun a e => by injection e with e; subst e; rfl) (by simp [SB, newD])).mono ?_
  rw [sy_write2 hk (fillTo_length _ _)]
  rintro e w6 ⟨rfl, own6, hd6, ho6, -⟩
  have HD6 := Lib.hid hd6
  have HB6 := Lib.hid (hb5'.trans (ho6.below (fun k _ hk => (hd5.lt hk).1) hb5'.size))
  clear hd5 hz5 hb5 hb5' hd6 ho6
  go_wp2_with fail
  refine (back_any HD6.out K T hK hT (by simp [SC])).mono ?_
  have hsy := sy_read (l := fillTo c 128) (l' := fillTo c7 128) hi hik K T
  have hpl : (backD K T (SC i k (fillTo c 128) (fillTo c7 128))).pend.length = 0 := rfl
  generalize backD K T (SC i k (fillTo c 128) (fillTo c7 128)) = S7 at *
  rintro e w7 ⟨rfl, own7, hd7, ho7, -⟩
  have HD7 := Lib.hid hd7
  have HB7 := Lib.hid (HB6.out.trans (ho7.below (fun k _ hk => (HD6.out.lt hk).1) HB6.out.size))
  have HSY := Lib.hid hsy
  have HPL := Lib.hid hpl
  clear hd7 ho7 hsy hpl
  go_wp2_with fail
  refine (read_any HD7.out i (by rw [HPL.out]; decide)).mono ?_
  rw [HSY.out.1, HSY.out.2]
  rintro e w8 ⟨hb8, A, n, rfl, hn, hA⟩
  rw [fillTo_length] at hn
  subst hn
  obtain ⟨b, rfl, -, hbk⟩ := hA (by omega)
  have HD8 := Lib.hid (HD7.out.past hb8)
  have HB8 := Lib.hid (HB7.out.trans (hb8.mono HB7.out.size))
  have HR8 := Lib.hid (show Rd w8 w8.heap.size (some ⟨b, 0, none⟩) (fillTo c 128) from fun _ => ⟨_, rfl, hbk.lt, fun j u hu => by rw [Addr.add_mid, Nat.zero_add]; exact hbk.cell (cellsOf_get hu)⟩)
  have hlen := fillTo_length c 128
  have HFC := Lib.hid (filled_any c false)
  clear hb8 hA hbk
  obtain ⟨l, hl⟩ : ∃ l, l = fillTo c 128 := ⟨_, rfl⟩
  have hfn : fillTo c (fillN false) = l := by rw [hl]; rfl
  rw [hfn] at HFC
  rw [← hl] at HR8 hlen
  have HLN := Lib.hid hlen
  clear hl hfn hlen HSY
  go_wp2_with fail
  refine Gw.wp_region_grow (syG D b l c) [73, 74, 75, 76, 77, 78, 79, 80, 81, 82, 83, 84, 85, 86, 87, 88, 89, 90, 10] [([14], none), ([73], none), ([74], none), ([13, 75], some (75, true)), ([76, 75], some (75, true)), ([2, 75], some (75, true)), ([78, 75], some (75, true)), ([79, 75], some (75, true)), ([77, 80, 75], some (75, true)), ([75, 81], none), ([82], none), ([11, 83], some (83, true)), ([84, 83], some (83, true)), ([85, 83], some (83, true)), ([83, 86], none), ([87], none), ([88], some (88, true)), ([88, 89], none), ([90], none)] 91 (by kernel_rfl) (by kernel_rfl) rfl ?h0 ?hreq ?hend
  case h0 =>
    intro t W hnd _
    unfold syG
    split <;> first | rfl | trivial | exact absurd (by simp) hnd
  case hreq =>
    refine ⟨?_, ?_, ?_, ?_, ?_, ?_, ?_, ?_, ?_, ?_, ?_, ?_, ?_, ?_, ?_, ?_, ?_, ?_, ?_, trivial⟩
    all_goals
      intro ac W hg hk
      have e1 := str_any (some ⟨b, 0, none⟩) 128 128 l W _ HLN.out (HR8.out.below hg)
      simp only [Gw.Knows, syG] at hk
      try (simp [go_sem, Gw.OpReq, Gw.Ok, Gw.Post, Gw.Holds, syG, Gw.Grows.refl, hk, e1]; done)
    · simp [go_sem, Gw.OpReq, Gw.Ok, Gw.Post, Gw.Holds, syG, Gw.Grows.refl, hk]
      refine (HFC.out W).mono ?_
      intro e w5 h5
      obtain ⟨X, n5, c5, rfl, hl, -, -, hr5, hb5⟩ := h5.open
      have e5 : n5 = 128 := hl.symm.trans HLN.out
      subst e5
      exact ⟨_, rfl, hb5, fun W2 hW2 => ⟨X, ⟨c5, rfl⟩, (hr5.below hW2).more (Below.size hW2)⟩⟩
    · obtain ⟨⟨X, ⟨cx, he⟩, hr5⟩, hk2, -⟩ := hk
      have e2 := str_any X 128 cx l W _ HLN.out hr5
      simp [go_sem, Gw.OpReq, Gw.Ok, Gw.Post, Gw.Holds, syG, Gw.Grows.refl, he, hk2, e2]
    · simp [go_sem, Gw.OpReq, Gw.Ok, Gw.Post, Gw.Holds, syG, Gw.Grows.refl, hk]
      refine (waiting_any (HD8.out.past hg)).mono ?_
      rintro e w5 ⟨rfl, rfl⟩
      exact ⟨.int .i64 0, by rw [HPL.out]; rfl, Gw.Grows.refl _, fun _ _ => rfl⟩
    · simp [go_sem, Gw.OpReq, Gw.Ok, Gw.Post, Gw.Holds, syG, Gw.Grows.refl, hk]
      refine (awake_any W).mono ?_
      rintro e w5 ⟨rfl, hb⟩
      exact ⟨_, rfl, hb, fun _ _ => rfl⟩
  case hend =>
    intro x w' hg hx
    have h10 : x 10 = .bool true := (hx 10 (by simp)).now
    have HB9 := Lib.hid (HB8.out.trans (Below.mono (show Below w8.heap.size w8 w' from hg) HB8.out.size))
    clear hx hg
    simp only [Gw.putAll, Act.put, List.setIfInBounds_toArray, List.set_cons_zero, List.set_cons_succ]
    rw [h10]
    go_wp2
    go_ret
    exact ⟨rfl, HB9.out⟩
set_option maxRecDepth 100000 in
set_option maxHeartbeats 2000000 in
theorem dsyncs_bad (i k y K T : Int) (h : i < 0 ∨ 40 ≤ i ∨ k < 0 ∨ 40 ≤ k ∨ i = k) (w : World) :
    Calls Try.prog 4 #[.int .i64 i, .int .i64 k, .int .u8 y, .int .u64 K, .int .u64 T] w fun e w' => e = .returned (.bool true) ∧ Below w.heap.size w w' := by
  have hway : (decide (i < 0) = true) ∨ (decide (i < 0) = false ∧ decide (40 ≤ i) = true) ∨ (decide (i < 0) = false ∧ decide (40 ≤ i) = false ∧ decide (k < 0) = true) ∨
      (decide (i < 0) = false ∧ decide (40 ≤ i) = false ∧ decide (k < 0) = false ∧ decide (40 ≤ k) = true) ∨ (decide (i < 0) = false ∧ decide (40 ≤ i) = false ∧ decide (k < 0) = false ∧ decide (40 ≤ k) = false ∧ (i == k) = true) := by
    simp only [decide_eq_true_eq, decide_eq_false_iff_not, beq_iff_eq]
    omega
  clear h
  rcases hway with d1 | ⟨d1, d2⟩ | ⟨d1, d2, d3⟩ | ⟨d1, d2, d3, d4⟩ | ⟨d1, d2, d3, d4, d5⟩
  all_goals
    go_enter Try.func4, Try.ntmps4
    go_wp2_with (first
      | (go_at_call 8
         refine (new_any 40 (by omega) (by omega) w).mono ?_
         rintro e w1 ⟨D, own1, rfl, -, hb1⟩
         have HB1 := Lib.hid hb1
         clear hb1)
      | (go_at_call 7; refine (awake_any _).mono ?_; rintro e w2 ⟨rfl, hb⟩; have HB := Lib.hid (HB1.out.trans (hb.mono HB1.out.size)); clear hb))
    go_ret
    exact ⟨rfl, HB.out⟩
open Go.ChangeShapes Go.WideShapes Go.ChangeAt Go.Joins
set_option maxRecDepth 100000 in
theorem diskSyncs_lifted (os : Os) (started : os.Started) (H : Type) (enc : TypeId × Value → H) :
    ReturnsInHanded {} Try.checked os 4 .any (Rows.diskSyncsSpec.pre6 enc Try.prog Try.f4 Rows.diskSyncsRow.domain false) (Rows.diskSyncsSpec.post enc Try.prog Try.f4 false true false false) := by
  refine returnsInHanded_of_change (C := Try.checked) own started (by kernel_rfl) Try.func4
    (ChangeSpec.witness6 (enc := enc) (C := Try.checked) false ⟨#[], #[.int .i64 0, .int .i64 0, .int .u8 0, .int .u64 0, .int .u64 0], []⟩ 8 (by kernel_rfl) (by kernel_rfl) (by kernel_rfl) (by kernel_rfl)) ?_
  intro W base args ds gs before hval0 hW hcnd _
  have hval : ∀ (j : Nat) t v, Try.f4.params[j]? = some t → args[j]? = some v → Value.okWide Try.prog W .any base t v := hval0
  have hW' := hW
  obtain ⟨p, q, hA0, hV, rfl, hfz, hnd⟩ := hW
  have hA : DataW.TrodAll enc Try.prog W 0 (fun _ => true) true Try.f4.params.toList args.toList ds p := hA0
  rw [Try.params4] at hA hval
  obtain ⟨v0, v1, v2, v3, v4, d0, d1, d2, d3, d4, p0, p1, p2, p3, p4, rfl, rfl, rfl, h0, h1, h2, h3, h4⟩ := Lw.trodAll_five hA
  obtain ⟨i, rfl, -, -, -⟩ := open_int Try.underlying3 (hval 0 3 v0 rfl rfl) h0
  obtain ⟨k, rfl, -, -, -⟩ := open_int Try.underlying3 (hval 1 3 v1 rfl rfl) h1
  obtain ⟨y, rfl, -, -, wy⟩ := open_int Try.underlying5 (hval 2 5 v2 rfl rfl) h2
  obtain ⟨K, rfl, -, -, wK⟩ := open_int Try.underlying34 (hval 3 34 v3 rfl rfl) h3
  obtain ⟨T, rfl, -, -, wT⟩ := open_int Try.underlying34 (hval 4 34 v4 rfl rfl) h4
  have hwalk : Calls Try.prog 4 #[.int .i64 i, .int .i64 k, .int .u8 y, .int .u64 K, .int .u64 T] W fun e w' => e = .returned (.bool true) ∧ Below W.heap.size W w' := by
    by_cases h : i < 0 ∨ 40 ≤ i ∨ k < 0 ∨ 40 ≤ k ∨ i = k
    · exact dsyncs_bad i k y K T h W
    · have hy : 0 ≤ y ∧ y < 256 := by simp [Lit.wf, IntKind.min, IntKind.max, IntKind.bits, IntKind.signed] at wy; omega
      have hK : 0 ≤ K ∧ K < 18446744073709551616 := by simp [Lit.wf, IntKind.min, IntKind.max, IntKind.bits, IntKind.signed] at wK; omega
      have hT : 0 ≤ T ∧ T < 18446744073709551616 := by simp [Lit.wf, IntKind.min, IntKind.max, IntKind.bits, IntKind.signed] at wT; omega
      obtain ⟨i, rfl⟩ : ∃ n : Nat, i = (n : Int) := ⟨i.toNat, by omega⟩
      obtain ⟨k, rfl⟩ : ∃ n : Nat, k = (n : Int) := ⟨k.toNat, by omega⟩
      obtain ⟨K, rfl⟩ : ∃ n : Nat, K = (n : Int) := ⟨K.toNat, by omega⟩
      obtain ⟨T, rfl⟩ : ∃ n : Nat, T = (n : Int) := ⟨T.toNat, by omega⟩
      have hy8 : y = ((UInt8.ofNat y.toNat).toNat : Int) := by rw [UInt8.toNat_ofNat']; omega
      rw [hy8]
      exact dsyncs_good i k _ K T (by omega) (by omega) (by omega) (by omega) (by omega) W
  refine hwalk.mono fun e W' ⟨he, hb⟩ => ?_
  subst he
  exact ⟨_, rfl, Lw.post_true laidOut (by kernel_rfl) rfl rfl rfl rfl (by kernel_rfl) Try.underlying4 hW' hb⟩

/-- DiskSyncs: what was synced is there behind a fall, whatever stays of other blocks' writes. -/
theorem diskSyncs_holds : Rows.DiskSyncsSaid :=
  OpenClaim.holds_of_wide 4 Try.f4 rfl rfl rfl rfl rfl rfl rfl ⟨rfl, rfl, rfl, rfl, rfl⟩ rfl rfl rfl rfl rfl (by kernel_rfl) Try.func4 (by kernel_rfl)
    (of_decide_eq_true (by kernel_rfl)) (by unfold Func.isWrapper; rw [if_neg (of_decide_eq_false (by kernel_rfl))]; exact ⟨rfl, rfl⟩)
    (fun os started H enc _ => diskSyncs_lifted os started H enc)
#print axioms diskSyncs_holds
end Go.Proofs.Ytpdhnkmihlgdjaa
