/- The document's lines and words: the program's. -/
import Derived.Test.YtbedepnmgnlijaaDoorTxD
import Derived.Test.YtbedepnmgnlijaaDoorByts
import Derived.Maps.AppendAt
namespace Go.Proofs.YtbedepnmgnlijaaDoor
open Go.RowKit Me Tx

/-- A text as a value. -/
abbrev Tx.sv (b : List UInt8) : Value := .string ⟨b.toArray⟩
theorem Tx.sv_data (s : ByteArray) : sv s.data.toList = .string s := by obtain ⟨⟨l⟩⟩ := s; rfl
theorem tx_str_info : (Tryd.prog.info? 9).map (fun i => (i.zero, i.size, i.bytes)) = some (some (.string ⟨#[]⟩), 1, 16) := by kernel_rfl
/-- Two rows of one's own of different types: what one grows by is not the other's. -/
theorem own_types {w : World} {b1 b2 s1 s2 n1 n2 : Nat} {e1 e2 : TypeId} {v1 v2 : Value} {xs1 xs2 : List Value} (h1 : w.ownsRow b1 e1 s1 v1 n1 xs1) (h2 : w.ownsRow b2 e2 s2 v2 n2 xs2) (hne : e1 ≠ e2) : ∀ k, v1.ownBlock = some k → ¬ v2.ownBlock = some k := by
  intro k hk hk2
  rcases h1.2 with ⟨rfl, _⟩ | ⟨g, cap, cur, rfl, hb, hg, _⟩
  · simp [Value.ownBlock] at hk
  · rcases h2.2 with ⟨rfl, _⟩ | ⟨g2, cap2, cur2, rfl, hb2, hg2, _⟩
    · simp [Value.ownBlock] at hk2
    · simp only [Value.ownBlock, Option.some.injEq] at hk hk2
      subst hk hk2
      rw [hg] at hg2
      injection hg2 with hg2
      injection hg2 with _ hg2
      exact hne hg2
theorem own_other {w w' : World} {b1 b2 s1 s2 n1 n2 : Nat} {e1 e2 : TypeId} {v1 v2 : Value} {xs1 xs2 : List Value} (h1 : w.ownsRow b1 e1 s1 v1 n1 xs1) (h2 : w.ownsRow b2 e2 s2 v2 n2 xs2) (hne : e1 ≠ e2) (hg : w.grownBy w' v2.ownBlock) : w'.ownsRow b1 e1 s1 v1 n1 xs1 :=
  own_out (S := fun k => v2.ownBlock = some k) h1 (Out.of_grown hg fun k e _ => e) (own_types h1 h2 hne)
/-- Texts so far, and the bytes of the one under way. -/
structure TwoS (w wr : World) (Ov Lv : Value) (acc : List (List UInt8)) (cur : List UInt8) : Prop where
  o : wr.ownsRow w.heap.size 9 1 Ov acc.length (acc.map sv)
  l : wr.ownsRow w.heap.size 5 1 Lv cur.length (cellsOf cur)
  b : Below w.heap.size w wr
theorem TwoS.past {w wr w' : World} {Ov Lv : Value} {acc : List (List UInt8)} {cur : List UInt8} (h : TwoS w wr Ov Lv acc cur) (hb : Below wr.heap.size wr w') : TwoS w w' Ov Lv acc cur :=
  ⟨own_below' h.o hb, own_below' h.l hb, h.b.trans (hb.mono h.b.size)⟩
theorem TwoS.byte {w wr w' : World} {Ov Lv v' : Value} {acc : List (List UInt8)} {cur : List UInt8} {u : UInt8} (h : TwoS w wr Ov Lv acc cur) (ho : w'.ownsRow w.heap.size 5 1 v' (cur.length + 1) (cellsOf (cur ++ [u]))) (hg : wr.grownBy w' Lv.ownBlock) : TwoS w w' Ov v' acc (cur ++ [u]) :=
  ⟨own_other h.o h.l (by decide) hg, by rw [List.length_append]; exact ho, h.b.grown hg h.b.size fun k e => (h.l.lt k e).1⟩
theorem TwoS.text {w wr w' : World} {Ov Lv v' : Value} {acc : List (List UInt8)} {cur x : List UInt8} (h : TwoS w wr Ov Lv acc cur) (ho : w'.ownsRow w.heap.size 9 1 v' (acc.length + 1) (acc.map sv ++ [sv x])) (hg : wr.grownBy w' Ov.ownBlock) : TwoS w w' v' Lv (acc ++ [x]) cur :=
  ⟨by rw [List.length_append, List.map_append]; exact ho, own_other h.l h.o (by decide) hg, h.b.grown hg h.b.size fun k e => (h.o.lt k e).1⟩
/-- .. another one is begun. -/
theorem TwoS.fresh {w wr : World} {Ov Lv : Value} {acc : List (List UInt8)} {cur : List UInt8} (h : TwoS w wr Ov Lv acc cur) : TwoS w (wr.alloc (.cells #[] 5)) Ov (.slice (some ⟨wr.heap.size, 0, none⟩) 0 0) acc [] :=
  ⟨h.o.alloc _, own_empty wr _ _ h.b.size, h.b.alloc h.b.size _⟩
theorem TwoS.rd {w wr : World} {Ov : Value} {A : Option Addr} {n c : Nat} {acc : List (List UInt8)} {cur : List UInt8} (h : TwoS w wr Ov (.slice A n c) acc cur) (hn : n = cur.length) : Rd wr wr.heap.size A cur := by subst hn; exact Rd.of_own h.l
theorem sv_one (x : List UInt8) : ∀ u ∈ [sv x], u.oneCell' = true := by simp [Value.oneCell']
theorem start_two (w : World) : TwoS w ((w.alloc (.cells #[] 9)).alloc (.cells #[] 5)) (.slice (some ⟨w.heap.size, 0, none⟩) 0 0) (.slice (some ⟨w.heap.size + 1, 0, none⟩) 0 0) [] [] := by
  refine ⟨?_, ?_, ((Below.refl _ w).alloc (Nat.le_refl _) _).alloc (by simp) _⟩
  · exact (World.ownsRow_lit w #[] 0 (Nat.le_refl _) (by unfold maxLen; omega) rfl).alloc _
  · have := own_empty (w.alloc (.cells #[] 9)) w.heap.size 5 (by simp)
    rw [World.size_alloc] at this
    exact this

set_option maxRecDepth 100000 in
set_option maxHeartbeats 2000000 in
theorem rlines_any (A : Option Addr) (n c : Nat) (l : List UInt8) (hl : l.length = n) (hn : n ≤ 1073741824) (w : World) (hr : Rd w w.heap.size A l) :
    Calls Tryd.prog 25 #[.slice A n c] w fun e w' => ∃ v, e = .returned v ∧ w'.ownsRow w.heap.size 9 1 v (linesG [] l).length ((linesG [] l).map sv) ∧ Below w.heap.size w w' := by
  obtain ⟨i0, hi0, hz0, hz1, hz2⟩ := info_parts u8_info
  obtain ⟨i1, hi1, hy0, hy1, hy2⟩ := info_parts tx_str_info
  have HL := Lib.hid hl
  have HR := Lib.hid hr
  have HS := Lib.hid (start_two w)
  have HG := Lib.hid (show linesG [] l = [] ++ linesG [] (l.drop 0) from rfl)
  clear hl hr
  go_enter Tryd.func25, Tryd.ntmps25
  go_wp2
  go_loopw [3, 4, 10] (fun Ov Lv i wr => ∃ (k : Nat) (acc : List (List UInt8)) (cur : List UInt8), i = .int .i64 (k : Int) ∧ k ≤ n ∧ acc.length ≤ k ∧ cur.length ≤ k ∧ Hid (linesG [] l = acc ++ linesG cur (l.drop k)) ∧ Hid (TwoS w wr Ov Lv acc cur)) (fun _ _ i _ => (n - intOf i).toNat)
  case atStart => exact ⟨0, [], [], rfl, Nat.zero_le _, Nat.zero_le _, Nat.zero_le _, HG, HS⟩
  case round =>
    clear HS HG
    obtain ⟨k, acc, cur, rfl, hk, ha, hc, HG, HS⟩ := hrel
    obtain ⟨A2, c2, hLv⟩ := own_slice HS.out.l
    subst hLv
    have hnm : acc.length + 1 ≤ maxLen := by unfold maxLen; omega
    have hn16 : (acc.length + 1) * 16 ≤ 140737488355328 := by omega
    have HRL := Lib.hid (HS.out.rd rfl)
    have e1 := str_any A2 cur.length c2 cur wr wr.heap.size rfl HRL.out
    have hbase : w.heap.size ≤ (wr.alloc (.cells #[sv cur] 9)).heap.size := by have := HS.out.b.size; simp; omega
    by_cases hkn : k < n
    · obtain ⟨a, u, rfl, -, hu, hcell⟩ := (HR.out.below HS.out.b).at (show k < l.length by rw [HL.out]; exact hkn)
      have hd := drop_at hu
      have hG := HG.out
      rw [hd, linesG] at hG
      by_cases hu10 : u = 10
      · subst hu10
        rw [if_pos rfl] at hG
        have HG2 := Lib.hid (show linesG [] l = (acc ++ [cur]) ++ linesG [] (l.drop (k + 1)) by rw [hG]; simp)
        clear hG hd
        go_wp2_with (at_builtin; refine wpList_append_own _ rfl (.tmp 18) (.tmp 21) 42 rfl w.heap.size 9 i1 _ 1 16 Tryd.underlying42 hi1 hy0 hy1 hy2 rfl (by decide) _ acc.length _ rfl (HS.out.o.alloc _) ⟨wr.heap.size, 0, none⟩ 1 1 [sv cur] rfl rfl (cell_one_new wr (sv cur) _) (sv_one cur) hnm hn16 hbase ?_; intro v3 w3 hown3 hg3 _)
        have HS2 := Lib.hid ((HS.out.past ((Below.refl _ _).alloc (Nat.le_refl _) _)).text hown3 hg3).fresh
        clear hown3 hg3
        go_roundw
        case rel => exact ⟨k + 1, _, _, by first | rfl | (congr 1), by omega, by simp; omega, by simp, HG2, HS2⟩
        case measure => simp [intOf]; omega
      · rw [if_neg hu10] at hG
        have hu' : ¬ (u.toNat : Int) = 10 := fun e => hu10 (UInt8.toNat_inj.1 (by simpa using (by omega : u.toNat = 10)))
        have HG2 := Lib.hid hG
        have hbase8 : w.heap.size ≤ (wr.alloc (.cells #[.int .u8 (u.toNat : Int)] 5)).heap.size := by have := HS.out.b.size; simp; omega
        clear hG hd
        go_wp2_with (at_builtin; refine wpList_app rfl (.tmp 24) (.tmp 29) 32 rfl w.heap.size 5 i0 _ Tryd.underlying32 hi0 hz0 hz1 hz2 rfl (.slice A2 cur.length c2) cur.length cur rfl (HS.out.l.alloc _) (wr.heap.size + 1) (some ⟨wr.heap.size, 0, none⟩) 1 1 [u] rfl rfl (Rd.lit wr #[.int .u8 (u.toNat : Int)] _ [u] rfl) (by omega) hbase8 ?_; intro v3 w3 hown3 hg3 _)
        have HS2 := Lib.hid ((HS.out.past ((Below.refl _ _).alloc (Nat.le_refl _) _)).byte hown3 hg3)
        clear hown3 hg3
        go_roundw
        case rel => exact ⟨k + 1, _, _, by first | rfl | (congr 1), by omega, by omega, by simp; omega, HG2, HS2⟩
        case measure => simp [intOf]; omega
    · have hkk : k = n := by omega
      have hG := HG.out
      rw [List.drop_eq_nil_of_le (by rw [HL.out]; omega), linesG] at hG
      by_cases hc0 : cur = []
      · rw [if_pos hc0] at hG
        have hz : cur.length = 0 := by rw [hc0]; rfl
        have HG2 := Lib.hid (show linesG [] l = acc by rw [hG]; simp)
        clear hG hc0
        rw [hz]
        go_wp2
        go_ret
        exact ⟨_, rfl, by rw [HG2.out]; exact HS.out.o, HS.out.b⟩
      · rw [if_neg hc0] at hG
        have hz : (0 : Int) < (cur.length : Int) := by have := List.length_pos_iff.2 hc0; omega
        have HG2 := Lib.hid hG
        clear hG hc0
        go_wp2_with (at_builtin; refine wpList_append_own _ rfl (.tmp 35) (.tmp 38) 42 rfl w.heap.size 9 i1 _ 1 16 Tryd.underlying42 hi1 hy0 hy1 hy2 rfl (by decide) _ acc.length _ rfl (HS.out.o.alloc _) ⟨wr.heap.size, 0, none⟩ 1 1 [sv cur] rfl rfl (cell_one_new wr (sv cur) _) (sv_one cur) hnm hn16 hbase ?_; intro v3 w3 hown3 hg3 _)
        have HS2 := Lib.hid ((HS.out.past ((Below.refl _ _).alloc (Nat.le_refl _) _)).text hown3 hg3)
        clear hown3 hg3
        go_ret
        exact ⟨_, rfl, by rw [HG2.out]; exact HS2.out.o, HS2.out.b⟩

theorem str_at {s : ByteArray} {k : Nat} {u : UInt8} (h : s.data.toList[k]? = some u) : ∀ hk : k < s.size, s[k]'hk = u := fun hk => by
  have h1 : s.data[k]? = some u := by simpa using h
  have h2 : k < s.data.size := hk
  rw [Array.getElem?_eq_getElem h2] at h1
  injection h1
theorem nat_ne {u : UInt8} {c : Nat} (hc : c < 256) (h : ¬ u = UInt8.ofNat c) : ¬ (u.toNat : Int) = (c : Int) := fun e => h (by
  apply UInt8.toNat_inj.1
  rw [UInt8.toNat_ofNat']
  omega)

set_option maxRecDepth 100000 in
set_option maxHeartbeats 2000000 in
theorem rwords_any (s : ByteArray) (n : Nat) (hl : s.size = n) (hn : n ≤ 1073741824) (w : World) :
    Calls Tryd.prog 22 #[.string s] w fun e w' => ∃ v, e = .returned v ∧ w'.ownsRow w.heap.size 9 1 v (wordsG [] s.data.toList).length ((wordsG [] s.data.toList).map sv) ∧ Below w.heap.size w w' := by
  obtain ⟨i0, hi0, hz0, hz1, hz2⟩ := info_parts u8_info
  obtain ⟨i1, hi1, hy0, hy1, hy2⟩ := info_parts tx_str_info
  obtain ⟨l, hld⟩ : ∃ l, l = s.data.toList := ⟨_, rfl⟩
  rw [← hld]
  have hll : l.length = n := by rw [hld, len_eq, hl]
  have HD := Lib.hid hld
  have HL := Lib.hid hll
  have HS := Lib.hid (start_two w)
  have HG := Lib.hid (show wordsG [] l = [] ++ wordsG [] (l.drop 0) from rfl)
  clear hld hll
  go_enter Tryd.func22, Tryd.ntmps22
  go_wp2
  go_loopw [3, 4, 5] (fun Ov Lv i wr => ∃ (k : Nat) (acc : List (List UInt8)) (cur : List UInt8), i = .int .i64 (k : Int) ∧ k ≤ n ∧ acc.length ≤ k ∧ cur.length ≤ k ∧ Hid (wordsG [] l = acc ++ wordsG cur (l.drop k)) ∧ Hid (TwoS w wr Ov Lv acc cur)) (fun _ _ i _ => (n - intOf i).toNat)
  case atStart => exact ⟨0, [], [], rfl, Nat.zero_le _, Nat.zero_le _, Nat.zero_le _, HG, HS⟩
  case round =>
    clear HS HG
    obtain ⟨k, acc, cur, rfl, hk, ha, hc, HG, HS⟩ := hrel
    obtain ⟨A2, c2, hLv⟩ := own_slice HS.out.l
    subst hLv
    have hnm : acc.length + 1 ≤ maxLen := by unfold maxLen; omega
    have hn16 : (acc.length + 1) * 16 ≤ 140737488355328 := by omega
    have HRL := Lib.hid (HS.out.rd rfl)
    have e1 := str_any A2 cur.length c2 cur wr wr.heap.size rfl HRL.out
    have hbase : w.heap.size ≤ (wr.alloc (.cells #[sv cur] 9)).heap.size := by have := HS.out.b.size; simp; omega
    by_cases hkn : k < n
    · have hu := Tx.get_at l k (by rw [HL.out]; exact hkn)
      obtain ⟨u, hg⟩ : ∃ u, l.getD k 0 = u := ⟨_, rfl⟩
      rw [hg] at hu
      have hd := drop_at hu
      have hG := HG.out
      rw [hd, wordsG] at hG
      have hix := str_at (by rw [← HD.out]; exact hu)
      by_cases hb : blankB u = true
      · rw [if_pos hb] at hG
        have hu2 : u = 32 ∨ u = 9 := by unfold blankB at hb; simpa using hb
        by_cases hc0 : cur = []
        · rw [if_pos hc0] at hG
          have hz : cur.length = 0 := by rw [hc0]; rfl
          have HG2 := Lib.hid (show wordsG [] l = acc ++ wordsG cur (l.drop (k + 1)) by rw [hG, hc0])
          clear hG hd HG hc0 hu
          rw [hz]
          rcases hu2 with rfl | rfl
          all_goals
            go_wp2
            go_roundw
            case rel => exact ⟨k + 1, acc, cur, by first | rfl | (congr 1), by omega, by omega, by omega, HG2, by rw [← hz]; exact HS⟩
            case measure => simp [intOf]; omega
        · rw [if_neg hc0] at hG
          have hz : (0 : Int) < (cur.length : Int) := by have := List.length_pos_iff.2 hc0; omega
          have HG2 := Lib.hid (show wordsG [] l = (acc ++ [cur]) ++ wordsG [] (l.drop (k + 1)) by rw [hG]; simp)
          clear hG hd HG hc0 hu
          rcases hu2 with rfl | rfl
          all_goals
            go_wp2_with (at_builtin; refine wpList_append_own _ rfl (.tmp 33) (.tmp 36) 42 rfl w.heap.size 9 i1 _ 1 16 Tryd.underlying42 hi1 hy0 hy1 hy2 rfl (by decide) _ acc.length _ rfl (HS.out.o.alloc _) ⟨wr.heap.size, 0, none⟩ 1 1 [sv cur] rfl rfl (cell_one_new wr (sv cur) _) (sv_one cur) hnm hn16 hbase ?_; intro v3 w3 hown3 hg3 _)
            have HS2 := Lib.hid ((HS.out.past ((Below.refl _ _).alloc (Nat.le_refl _) _)).text hown3 hg3).fresh
            clear hown3 hg3
            go_roundw
            case rel => exact ⟨k + 1, _, _, by first | rfl | (congr 1), by omega, by simp; omega, by simp, HG2, HS2⟩
            case measure => simp [intOf]; omega
      · rw [if_neg hb] at hG
        have h32 : ((u.toNat : Int) != 32) = true := bne_iff_ne.2 (nat_ne (c := 32) (by omega) (fun e => hb (by rw [e]; rfl)))
        have h9 : ((u.toNat : Int) != 9) = true := bne_iff_ne.2 (nat_ne (c := 9) (by omega) (fun e => hb (by rw [e]; rfl)))
        have HG2 := Lib.hid hG
        have hbase8 : w.heap.size ≤ (wr.alloc (.cells #[.int .u8 (u.toNat : Int)] 5)).heap.size := by have := HS.out.b.size; simp; omega
        clear hG hd HG hu
        go_wp2_with (at_builtin; refine wpList_app rfl (.tmp 24) (.tmp 28) 32 rfl w.heap.size 5 i0 _ Tryd.underlying32 hi0 hz0 hz1 hz2 rfl (.slice A2 cur.length c2) cur.length cur rfl (HS.out.l.alloc _) (wr.heap.size + 1) (some ⟨wr.heap.size, 0, none⟩) 1 1 [u] rfl rfl (Rd.lit wr #[.int .u8 (u.toNat : Int)] _ [u] rfl) (by omega) hbase8 ?_; intro v3 w3 hown3 hg3 _)
        have HS2 := Lib.hid ((HS.out.past ((Below.refl _ _).alloc (Nat.le_refl _) _)).byte hown3 hg3)
        clear hown3 hg3
        go_roundw
        case rel => exact ⟨k + 1, _, _, by first | rfl | (congr 1), by omega, by omega, by simp; omega, HG2, HS2⟩
        case measure => simp [intOf]; omega
    · have hkk : k = n := by omega
      have hG := HG.out
      rw [List.drop_eq_nil_of_le (by rw [HL.out]; omega), wordsG] at hG
      by_cases hc0 : cur = []
      · rw [if_pos hc0] at hG
        have hz : cur.length = 0 := by rw [hc0]; rfl
        have HG2 := Lib.hid (show wordsG [] l = acc by rw [hG]; simp)
        clear hG hc0
        rw [hz]
        go_wp2
        go_ret
        exact ⟨_, rfl, by rw [HG2.out]; exact HS.out.o, HS.out.b⟩
      · rw [if_neg hc0] at hG
        have hz : (0 : Int) < (cur.length : Int) := by have := List.length_pos_iff.2 hc0; omega
        have HG2 := Lib.hid hG
        clear hG hc0
        go_wp2_with (at_builtin; refine wpList_append_own _ rfl (.tmp 42) (.tmp 45) 42 rfl w.heap.size 9 i1 _ 1 16 Tryd.underlying42 hi1 hy0 hy1 hy2 rfl (by decide) _ acc.length _ rfl (HS.out.o.alloc _) ⟨wr.heap.size, 0, none⟩ 1 1 [sv cur] rfl rfl (cell_one_new wr (sv cur) _) (sv_one cur) hnm hn16 hbase ?_; intro v3 w3 hown3 hg3 _)
        have HS2 := Lib.hid ((HS.out.past ((Below.refl _ _).alloc (Nat.le_refl _) _)).text hown3 hg3)
        clear hown3 hg3
        go_ret
        exact ⟨_, rfl, by rw [HG2.out]; exact HS2.out.o, HS2.out.b⟩
end Go.Proofs.YtbedepnmgnlijaaDoor
