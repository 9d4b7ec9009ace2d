/- Numbers: the program's. -/
import Derived.Test.YtbedepnmgnlijaaDoorTxW
namespace Go.Proofs.YtbedepnmgnlijaaDoor
open Go.RowKit Me Tx Go.Shelf Go.Lib

set_option maxRecDepth 100000 in
theorem isNumber_any (s : ByteArray) (w : World) :
    Calls Tryd.prog 36 #[.string s] w fun e w' => e = .returned (.bool (isNum s.data.toList)) ∧ Below w.heap.size w w' := by
  obtain ⟨l, hl⟩ : ∃ l, l = s.data.toList := ⟨_, rfl⟩
  rw [← hl]
  cases l with
  | nil =>
    have e : s = ⟨#[]⟩ := by obtain ⟨⟨m⟩⟩ := s; simp at hl; subst hl; rfl
    subst e
    clear hl
    go_enter Tryd.func36, Tryd.ntmps36
    go_wp2
    go_ret
    exact ⟨rfl, Below.refl _ _⟩
  | cons u r =>
    have hsz : s.size = r.length + 1 := by rw [← len_eq, ← hl]; rfl
    have hemp : s.toList.isEmpty = false := by rw [Go.ByteArray.toList_eq, ← hl]; rfl
    have hne : ¬ s.toList = [] := fun e => by rw [e] at hemp; cases hemp
    have hix := str_at (s := s) (k := 0) (u := u) (by rw [← hl]; rfl)
    have hz : 0 < s.size := by omega
    have HC := Lib.hid (show decide (0 ≤ idxFunc noDigR true s) = !(u :: r).all dig by rw [hl]; exact contains_dig s)
    by_cases h0 : 1 < r.length + 1 ∧ u = 48
    · have e : isNum (u :: r) = false := by unfold isNum; simp only [List.length_cons, List.headD_cons, h0.1, h0.2]; rfl
      have h1 : (1 : Int) < (s.size : Int) := by omega
      have h48 : u = 48 := h0.2
      subst h48
      rw [e]
      clear hl
      go_enter Tryd.func36, Tryd.ntmps36
      go_wp2
      go_ret
      exact ⟨rfl, Below.refl _ _⟩
    · have e : isNum (u :: r) = (u :: r).all dig := by
        unfold isNum
        have : (decide (1 < (u :: r).length) && (u :: r).headD 0 == 48) = false := by
          rw [Bool.eq_false_iff]
          intro h
          simp only [Bool.and_eq_true, decide_eq_true_eq, List.length_cons, List.headD_cons, beq_iff_eq] at h
          exact h0 h
        rw [this]
        simp
      rw [e]
      clear hl e
      by_cases h1 : 1 < r.length + 1
      · have h1' : (1 : Int) < (s.size : Int) := by omega
        have h48 : ((u.toNat : Int) == 48) = false := beq_eq_false_iff_ne.2 (nat_ne (c := 48) (by omega) fun e => h0 ⟨h1, e⟩)
        go_enter Tryd.func36, Tryd.ntmps36
        go_wp2_with fail
        refine (Tryd.strings_ContainsFunc_runes 42 #[] enters29 noDigR s _ (isNoDigit_at _)).mono ?_
        rintro e w' ⟨rfl, hb⟩
        rw [HC.out]
        have HB := Lib.hid hb
        clear hb HC
        go_wp2
        go_ret
        exact ⟨by simp, HB.out⟩
      · have h1' : ¬ (1 : Int) < (s.size : Int) := by omega
        go_enter Tryd.func36, Tryd.ntmps36
        go_wp2_with fail
        refine (Tryd.strings_ContainsFunc_runes 42 #[] enters29 noDigR s _ (isNoDigit_at _)).mono ?_
        rintro e w' ⟨rfl, hb⟩
        rw [HC.out]
        have HB := Lib.hid hb
        clear hb HC
        go_wp2
        go_ret
        exact ⟨by simp, HB.out⟩
/-- A package variable that holds an error, or none. -/
def ErrCell (w : World) : Prop := ∃ ev, w.cell? ⟨3, 0, none⟩ = some ev ∧ (ev = .nilIface ∨ ∃ te pe, ev = .iface te pe)
theorem ErrCell.below {w w' : World} (h : ErrCell w) (hb : Below w.heap.size w w') : ErrCell w' := by
  obtain ⟨ev, h1, h2⟩ := h
  exact ⟨ev, (hb.cell (World.block_lt_of_cell? _ _ h1)).trans h1, h2⟩
/-- A number and an error are answered; nothing that was there has turned. -/
def NumPost (w : World) (k : IntKind) (r : Nat × Int) (e : Ending) (w' : World) : Prop := e = .returned (.tuple #[.int .u64 (r.1 : Int), .int k r.2]) ∧ Below w.heap.size w w'
set_option maxRecDepth 100000 in
theorem num_any (s : ByteArray) (most : Nat) (hs : s.size ≤ 1073741824) (hm : most < 18446744073709551616) (w : World) (hE : ErrCell w) :
    Calls Tryd.prog 31 #[.string s, .int .u64 (most : Int)] w (NumPost w .i64 (numS s.data.toList most)) := by
  have HE := Lib.hid hE
  clear hE
  obtain ⟨l, hl⟩ : ∃ l, l = s.data.toList := ⟨_, rfl⟩
  have HL := Lib.hid hl
  rw [← hl]
  by_cases hn : isNum l = true
  · have hp := parse_num hn
    by_cases hv : val 0 l ≤ 18446744073709551615
    · rw [if_pos hv] at hp
      obtain ⟨u, hu⟩ : ∃ u, u = val 0 l := ⟨_, rfl⟩
      obtain ⟨R, hS, hR⟩ : ∃ R, numS l most = R ∧ ((u ≤ most ∧ R = (u, 0)) ∨ (¬ u ≤ most ∧ R = (0, 9))) := by
        unfold numS
        rw [if_pos hn, ← hu]
        by_cases h : u ≤ most
        · rw [if_pos h]; exact ⟨_, rfl, .inl ⟨h, rfl⟩⟩
        · rw [if_neg h]; exact ⟨_, rfl, .inr ⟨h, rfl⟩⟩
      rw [← hu] at hp hv
      have HP := Lib.hid hp
      have HN := Lib.hid hn
      rw [hS]
      clear hp hn hS hu hl
      go_enter Tryd.func31, Tryd.ntmps31
      go_wp2_with fail
      refine (isNumber_any s _).mono ?_
      rw [← HL.out, HN.out]
      rintro e w1 ⟨rfl, hb1⟩
      have HB1 := Lib.hid hb1
      clear hb1
      go_wp2_with fail
      refine (Tryd.strconv_ParseUint_10_at64_ok s (by omega) u (by rw [← HL.out]; exact HP.out) _).mono ?_
      rintro e w2 ⟨rfl, hw2⟩
      have HB2 := Lib.hid (show Below w.heap.size w w2 by
        rcases hw2 with rfl | rfl
        · exact HB1.out
        · exact HB1.out.trans ((Lib.bytesWorld_below _ _ _).mono HB1.out.size))
      clear hw2
      rcases hR with ⟨hm2, rfl⟩ | ⟨hm2, rfl⟩
      · have k1 : ¬ (most : Int) < (u : Int) := by omega
        go_wp2
        go_ret2
        exact ⟨rfl, HB2.out⟩
      · have k1 : (most : Int) < (u : Int) := by omega
        go_wp2
        go_ret2
        exact ⟨rfl, HB2.out⟩
    · rw [if_neg hv] at hp
      have hS : numS l most = (0, 9) := by unfold numS; rw [if_pos hn, if_neg (by omega)]
      have HP := Lib.hid hp
      have HN := Lib.hid hn
      rw [hS]
      clear hp hn hS hl hv
      go_enter Tryd.func31, Tryd.ntmps31
      go_wp2_with fail
      refine (isNumber_any s _).mono ?_
      rw [← HL.out, HN.out]
      rintro e w1 ⟨rfl, hb1⟩
      obtain ⟨ev, h1, h2⟩ := HE.out.below hb1
      have HB1 := Lib.hid hb1
      have H1 := Lib.hid h1
      have H2 := Lib.hid h2
      clear hb1 h1 h2
      go_wp2_with fail
      refine (Tryd.strconv_ParseUint_10_at64_range s (by omega) (by rw [← HL.out]; exact HP.out) ev _ H1.out H2.out).mono ?_
      rintro e w2 ⟨N, rfl, -, -, hb2⟩
      have HB2 := Lib.hid (HB1.out.trans (hb2.mono HB1.out.size))
      clear hb2
      go_wp2
      go_ret2
      exact ⟨rfl, HB2.out⟩
  · have hS : numS l most = (0, 3) := by unfold numS; rw [if_neg hn]
    have HN := Lib.hid (Bool.eq_false_iff.2 hn)
    rw [hS]
    clear hS hn hl
    go_enter Tryd.func31, Tryd.ntmps31
    go_wp2_with fail
    refine (isNumber_any s _).mono ?_
    rw [← HL.out, HN.out]
    rintro e w1 ⟨rfl, hb1⟩
    have HB1 := Lib.hid hb1
    clear hb1
    go_wp2
    go_ret2
    exact ⟨rfl, HB1.out⟩
theorem byteCells_eq (l : List UInt8) : byteCells l = cellsOf l := rfl
/-- What Put reads: the powers of ten. -/
def Tab (w : World) : Prop := TabIs Tryd.prog w "internal/strconv.uint64pow10" .u64 pow10Tab
theorem tab_global : Tryd.prog.globalNamed "internal/strconv.uint64pow10" = some 4 := by kernel_rfl
theorem Tab.at {w : World} (h : Tab w) (i : Nat) (hi : i < 20) : w.cell? ⟨4, i, none⟩ = some (.int .u64 (pow10Tab.getD i 0)) := TabIs.cell h tab_global i (show i < pow10Tab.length from hi)
theorem Tab.below {w w' : World} (h : Tab w) (hb : Below w.heap.size w w') : Tab w' := by
  have hc := h.at 0 (by omega)
  have hlt : (4 : Nat) < w.heap.size := World.block_lt_of_cell? _ _ hc
  unfold Tab TabIs World.var? at *
  simp only [tab_global, Option.bind_some] at h ⊢
  rw [hb.block 4 hlt]
  exact h
theorem append_any (v : Value) (n : Nat) (b : List UInt8) (hn : n ≤ 1073741824) (u : Nat) (hu : u < 18446744073709551616) (B : Nat) (w : World) (ho : w.ownsRow B 5 1 v n (cellsOf b)) (hB : B ≤ w.heap.size) (hT : Tab w) :
    Calls Tryd.prog 39 #[v, .int .u64 (u : Int), .int .i64 10] w fun e w' => ∃ v', e = .returned v' ∧ w'.ownsRow B 5 1 v' (n + (putN u).length) (cellsOf (b ++ putN u)) ∧ Below B w w' := by
  have h := Tryd.internal_strconv_AppendUint_10 B n u hu v (cellsOf b) w ho hB (by omega) hT
  rw [decDigits_putN, byteCells_eq, ← cellsOf_append] at h
  have HH := Lib.hid h
  clear h ho hT
  go_enter Tryd.func39, Tryd.ntmps39
  go_wp2_with fail
  refine HH.out.mono ?_
  rintro e w1 ⟨v1, rfl, ho1, hb1, -⟩
  have HO1 := Lib.hid (And.intro ho1 hb1)
  clear ho1 hb1
  go_wp2
  go_ret
  exact ⟨_, rfl, HO1.out.1, HO1.out.2⟩
set_option maxRecDepth 100000 in
theorem put_any (a : Addr) (n c : Nat) (b : List UInt8) (hb : b.length = n) (hn : n ≤ 1073741824) (u : Nat) (hu : u < 18446744073709551616) (w : World) (hr : Rd w w.heap.size (some a) b) (hT : Tab w) :
    Calls Tryd.prog 34 #[.slice (some a) n c, .int .u64 (u : Int)] w (News w (b ++ putN u)) := by
  have hc : ∀ i, i < n → w.cell? (a.add i) = some (.int .u8 ((b.map fun x : UInt8 => (x.toNat : Int)).getD i 0)) := by
    intro i hi
    obtain ⟨a', u', e, -, hu', hcl⟩ := hr.at (show i < b.length by omega)
    injection e with e
    subst e
    rw [hcl]
    simp [hu']
  have hlen : (b.map fun x : UInt8 => (x.toNat : Int)).length = n := by rw [List.length_map, hb]
  have hcl := Tryd.bytes_Clone_at a n c (b.map fun x : UInt8 => (x.toNat : Int)) w hlen (by omega) hc
  rw [show (b.map fun x : UInt8 => (x.toNat : Int)).map (Value.int .u8) = cellsOf b by rw [List.map_map]; rfl] at hcl
  have HCL := Lib.hid hcl
  have HT := Lib.hid hT
  clear hc hlen hcl hr hT
  go_enter Tryd.func34, Tryd.ntmps34
  go_wp2_with fail
  refine HCL.out.mono ?_
  rintro e w1 ⟨v1, rfl, ho1, -, hb1⟩
  have HO1 := Lib.hid ho1
  have HB1 := Lib.hid hb1
  have HT1 := Lib.hid (HT.out.below hb1)
  clear ho1 hb1
  go_wp2_with fail
  refine (append_any v1 n b hn u hu w.heap.size w1 HO1.out HB1.out.size HT1.out).mono ?_
  rintro e w2 ⟨v2, rfl, ho2, hb2⟩
  have HO2 := Lib.hid (show News w (b ++ putN u) (.returned v2) w2 from ⟨v2, _, rfl, ho2, HB1.out.trans hb2⟩)
  clear ho2 hb2
  go_wp2
  go_ret
  exact HO2.out
set_option maxRecDepth 100000 in
theorem put_any' (A : Option Addr) (n c : Nat) (b : List UInt8) (hb : b.length = n) (hn : n ≤ 1073741824) (u : Nat) (hu : u < 18446744073709551616) (w : World) (hr : Rd w w.heap.size A b) (hT : Tab w) :
    Calls Tryd.prog 34 #[.slice A n c, .int .u64 (u : Int)] w (News w (b ++ putN u)) := by
  cases A with
  | some a => exact put_any a n c b hb hn u hu w hr hT
  | none =>
    have h0 : b = [] := by
      rcases Nat.eq_zero_or_pos b.length with h0 | h0
      · exact List.eq_nil_of_length_eq_zero h0
      · obtain ⟨a, e, _⟩ := hr h0
        cases e
    subst h0
    have HT := Lib.hid hT
    clear hr hT
    go_enter Tryd.func34, Tryd.ntmps34
    go_wp2_with fail
    refine (Tryd.bytes_Clone_nil n c w).mono ?_
    rintro e w1 ⟨rfl, rfl⟩
    go_wp2_with fail
    refine (append_any (.slice none 0 0) 0 [] (by omega) u hu w1.heap.size w1 (World.ownsRow_nil _ _ _ _) (Nat.le_refl _) HT.out).mono ?_
    rintro e w2 ⟨v2, rfl, ho2, hb2⟩
    have HO2 := Lib.hid (show News w1 ([] ++ putN u) (.returned v2) w2 from ⟨v2, _, rfl, ho2, hb2⟩)
    clear ho2 hb2
    go_wp2
    go_ret
    exact HO2.out
end Go.Proofs.YtbedepnmgnlijaaDoor
