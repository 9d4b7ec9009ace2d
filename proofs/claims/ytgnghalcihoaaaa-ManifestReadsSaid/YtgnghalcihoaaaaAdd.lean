/- The program's sum of bytes in rows. -/
import Derived.Test.YtgnghalcihoaaaaEff
namespace Go.Proofs.Ytgnghalcihoaaaa
open Go.RowKit Cr Me

theorem shN_shl (x : Reg) : ∀ k, k ≤ 32 → (∀ i, 32 - k ≤ i → x.getLsbD i = false) → shN k (x <<< k) = x
  | 0, _, _ => by simp [shN]
  | k + 1, h, hx => by
    have e : x <<< (k + 1) = (x <<< k) <<< 1 := by rw [← BitVec.shiftLeft_add]
    have ht : (x <<< k).getLsbD 31 = false := by
      rw [BitVec.getLsbD_shiftLeft, hx (31 - k) (by omega)]; simp
    rw [shN, e, sh_shl ht, shN_shl x k (by omega) (fun i hi => hx i (by omega))]
theorem upd_table (s : Reg) (u : UInt8) : upd s u = (s >>> 8) ^^^ shN 8 (BitVec.ofNat 32 ((s.toNat % 256) ^^^ u.toNat)) := by
  have hu : u.toNat < 256 := u.toNat_lt
  have hq : (s.toNat % 256) ^^^ u.toNat < 2 ^ 8 := Nat.xor_lt_two_pow (Nat.mod_lt _ (by decide)) hu
  have e : s ^^^ BitVec.ofNat 32 u.toNat = ((s >>> 8) <<< 8) ^^^ BitVec.ofNat 32 ((s.toNat % 256) ^^^ u.toNat) := by
    apply BitVec.eq_of_getLsbD_eq
    intro i hi
    rw [BitVec.getLsbD_xor, BitVec.getLsbD_xor, byte_bit, BitVec.getLsbD_shiftLeft, BitVec.getLsbD_ushiftRight, BitVec.getLsbD_ofNat, Nat.testBit_xor, show (256 : Nat) = 2 ^ 8 from rfl, Nat.testBit_mod_two_pow]
    have hs : s.getLsbD i = s.toNat.testBit i := rfl
    rw [hs]
    by_cases h : i < 8
    · simp [h, hi]
    · have h8 : 8 + (i - 8) = i := by omega
      rw [byte_high u (by omega), h8, hs]
      simp [h, hi]
  unfold upd
  rw [e, shN_xor, shN_shl _ 8 (by omega) (fun i hi => by rw [BitVec.getLsbD_ushiftRight]; exact BitVec.getLsbD_of_ge _ _ (by omega))]
theorem upd_int (s : Reg) (u : UInt8) (q : Nat) (hq : q = (s.toNat % 256) ^^^ u.toNat) : bits .xor .u32 ((s.toNat : Int) / 256) (effI q) = ((upd s u).toNat : Int) := by
  rw [upd_table, ← hq, ← xor_reg]
  congr 1
  rw [BitVec.toNat_ushiftRight, Nat.shiftRight_eq_div_pow]
  rfl
theorem index_int (s : Reg) (u : UInt8) : ∃ q : Nat, q = (s.toNat % 256) ^^^ u.toNat ∧ q < 256 ∧ bits .xor .u8 ((s.toNat : Int) % 256) (u.toNat : Int) = (q : Int) := by
  have hu : u.toNat < 256 := u.toNat_lt
  have hm : s.toNat % 256 < 256 := Nat.mod_lt _ (by decide)
  refine ⟨_, rfl, Nat.xor_lt_two_pow (n := 8) hm hu, ?_⟩
  have := u8_xor_nat (s.toNat % 256) u.toNat hm hu
  rw [← this]
  rfl

/-- Slices in a row, at L: they read as these rows of bytes. -/
def Parts (w : World) (B : Nat) (L : Option Addr) (ls : List (List UInt8)) : Prop :=
  0 < ls.length → ∃ a, L = some a ∧ a.block < B ∧ ∀ i l, ls[i]? = some l → ∃ A m c, w.cell? (a.add i) = some (.slice A m c) ∧ l.length = m ∧ m ≤ 9223372036854775807 ∧ Rd w B A l
theorem Parts.at {w : World} {B : Nat} {L : Option Addr} {ls : List (List UInt8)} {k : Nat} (h : Parts w B L ls) (hk : k < ls.length) :
    ∃ a l A m c, L = some a ∧ ls[k]? = some l ∧ a.block < B ∧ w.cell? (a.add k) = some (.slice A m c) ∧ l.length = m ∧ m ≤ 9223372036854775807 ∧ Rd w B A l := by
  obtain ⟨a, rfl, hb, hc⟩ := h (by omega)
  obtain ⟨A, m, c, h1, h2, h3, h4⟩ := hc k _ (List.getElem?_eq_getElem hk)
  exact ⟨a, _, A, m, c, rfl, List.getElem?_eq_getElem hk, hb, h1, h2, h3, h4⟩
theorem Parts.below {w w' : World} {B : Nat} {L : Option Addr} {ls : List (List UInt8)} (h : Parts w B L ls) (hb : Below B w w') : Parts w' B L ls := fun hn => by
  obtain ⟨a, rfl, h1, hc⟩ := h hn
  refine ⟨a, rfl, h1, fun i l hl => ?_⟩
  obtain ⟨A, m, c, g1, g2, g3, g4⟩ := hc i l hl
  exact ⟨A, m, c, by rw [hb.cell (by rw [block_add]; exact h1)]; exact g1, g2, g3, g4.below hb⟩
theorem Parts.more {w : World} {B B' : Nat} {L : Option Addr} {ls : List (List UInt8)} (h : Parts w B L ls) (hB : B ≤ B') : Parts w B' L ls := fun hn => by
  obtain ⟨a, rfl, h1, hc⟩ := h hn
  refine ⟨a, rfl, by omega, fun i l hl => ?_⟩
  obtain ⟨A, m, c, g1, g2, g3, g4⟩ := hc i l hl
  exact ⟨A, m, c, g1, g2, g3, g4.more hB⟩
theorem crcReg_append (l m : List UInt8) : crcReg (l ++ m) = m.foldl upd (crcReg l) := by unfold crcReg; rw [List.foldl_append]
theorem flatten_snoc {ls : List (List UInt8)} {k : Nat} {l : List UInt8} (h : ls[k]? = some l) : (ls.take (k + 1)).flatten = (ls.take k).flatten ++ l := by
  rw [List.take_add_one, h, List.flatten_append]; simp
theorem foldl_snoc {l : List UInt8} {k : Nat} {u : UInt8} (r : Reg) (h : l[k]? = some u) : (l.take (k + 1)).foldl upd r = upd ((l.take k).foldl upd r) u := by
  rw [take_snoc h, List.foldl_append]; rfl

/-- The table of effects stands in block g. -/
def Tab (w : World) (g : Nat) : Prop := ∀ i, i < 256 → w.cell? ⟨g, i, none⟩ = some (.int .u32 (effI i))
theorem tab_world (w : World) (cs : Array Value) (hs : cs.size = 256) (hc : ∀ i, i < 256 → cs[i]? = some (.int .u32 ((shN 8 (BitVec.ofNat 32 i)).toNat : Int))) :
    (w.alloc (.cells zero256 155)).there w.heap.size 0 cs.size ∧ (Try.prog.info? 155).map (·.size) = some cs.size ∧ cs.all (·.oneCell') = true ∧
      Tab ((w.alloc (.cells zero256 155)).setCells w.heap.size 0 cs.toList) w.heap.size ∧ Below w.heap.size w ((w.alloc (.cells zero256 155)).setCells w.heap.size 0 cs.toList) := by
  have hh := heap_alloc_last w (.cells zero256 155)
  have ht : (w.alloc (.cells zero256 155)).there w.heap.size 0 cs.size := fun j hj => by
    rw [hs] at hj
    refine ⟨?_, ?_⟩
    · simp only [World.cell?, hh]; simp [zero256, hj]
    · unfold World.frozen?; rw [hh]; simp
  refine ⟨ht, by rw [hs]; exact (zero_of_info zero_info).2, Array.all_eq_true_iff_forall_mem.2 fun v hv => ?_, fun i hi => ?_, below_setCells _ _ _ ((Below.refl _ _).alloc (Nat.le_refl _) _) (Nat.le_refl _)⟩
  · obtain ⟨i, hi, rfl⟩ := Array.mem_iff_getElem.1 hv
    have := hc i (by rw [hs] at hi; exact hi)
    rw [Array.getElem?_eq_getElem hi] at this
    injection this with this
    rw [this]
    rfl
  · have := World.rangeAt_setCells_same (w.alloc (.cells zero256 155)) w.heap.size 0 cs.toList (by simpa using ht) i (.int .u32 (effI i)) (by simpa [effI] using hc i hi)
    simpa using this
set_option maxRecDepth 100000 in
set_option maxHeartbeats 400000 in
theorem sum_any (L : Option Addr) (n c : Nat) (ls : List (List UInt8)) (w : World) (hl : ls.length = n) (hn : n ≤ 9223372036854775807) (hp : Parts w w.heap.size L ls) :
    Calls Try.prog 99 #[.slice L n c] w fun e w' => e = .returned (.int .u32 ((crc ls.flatten).toNat : Int)) ∧ Below w.heap.size w w' := by
  have hz : ∀ w, (zeroValue 155).run Try.prog w = .ok (.agg zero256) w := (zero_of_info zero_info).1
  have HL := Lib.hid hl
  have HP := Lib.hid hp
  clear hl hp
  go_enter Try.func99, Try.ntmps99
  go_wp2_with fail
  refine (effects_any _).mono ?_
  rintro e w1 ⟨cs, rfl, hs, hcs, hb⟩
  obtain ⟨h1, h2, h3, h4, h5⟩ := tab_world w1 cs hs hcs
  have H1 := Lib.hid h1
  have H2 := Lib.hid h2
  have H3 := Lib.hid h3
  have H4 := Lib.hid h4
  have H5 := Lib.hid (hb.trans (h5.mono hb.size))
  clear hs hcs hb h1 h2 h3 h4 h5
  go_wp2_with (refine wpList_store_mid rfl 155 _ _ rfl w1.heap.size 0 cs rfl rfl H1.out H2.out H3.out ?_)
  obtain ⟨W, hW⟩ : ∃ W, W = (w1.alloc (.cells zero256 155)).setCells w1.heap.size 0 cs.toList := ⟨_, rfl⟩
  rw [← hW] at H4 H5 ⊢
  clear hW H1 H2 H3
  have HQ := Lib.hid (HP.out.below H5.out)
  obtain ⟨g, hg⟩ : ∃ g, g = w1.heap.size := ⟨_, rfl⟩
  rw [← hg] at H4 ⊢
  clear hg HP
  go_loop [4, 12] (fun x i => ∃ k : Nat, k ≤ n ∧ i = .int .i64 k ∧ ∃ r : Reg, Hid (r = crcReg (ls.take k).flatten) ∧ x = .int .u32 (r.toNat : Int)) (fun _ i => n - (intOf i).toNat)
  case atStart => exact ⟨0, Nat.zero_le _, rfl, 4294967295#32, Lib.hid rfl, rfl⟩
  case round =>
    obtain ⟨k, hk, rfl, r, H, rfl⟩ := hrel
    by_cases hlt : k < n
    · have hlt' : k < ls.length := by rw [HL.out]; exact hlt
      obtain ⟨a, l, A, m, c2, rfl, hlk, -, hc, hm, hm63, hrd⟩ := HQ.out.at hlt'
      have HK := Lib.hid hlk
      have HM := Lib.hid hm
      have HD := Lib.hid hrd
      clear hlt' hlk hm hrd
      go_wp2_with fail
      go_loop [4, 18] (fun x i => ∃ j : Nat, j ≤ m ∧ i = .int .i64 j ∧ ∃ s : Reg, Hid (s = (l.take j).foldl upd r) ∧ x = .int .u32 (s.toNat : Int)) (fun _ i => m - (intOf i).toNat)
      case atStart => exact ⟨0, Nat.zero_le _, rfl, r, Lib.hid rfl, rfl⟩
      case round =>
        obtain ⟨j, hj, rfl, s, HS, rfl⟩ := hrel
        have hs1 := reg_lt s
        by_cases hjm : j < m
        · have hjm' : j < l.length := by rw [HM.out]; exact hjm
          obtain ⟨b, u, rfl, -, hu, hcu⟩ := HD.out.at hjm'
          obtain ⟨q, hq, hq256, hqi⟩ := index_int s u
          have hcq := H4.out q hq256
          have HU := Lib.hid hu
          have HQI := Lib.hid hq
          have hu256 := u.toNat_lt
          have hq0 : (0 : Int) ≤ (q : Int) := by omega
          have hq1 : (q : Int) < 256 := by omega
          clear hu hjm' hq
          go_wp2
          go_round
          case rel => exact ⟨j + 1, by omega, by go_num, upd s u, Lib.hid (by rw [foldl_snoc r HU.out, HS.out]), by rw [upd_int s u q HQI.out]⟩
          case measure => simp [intOf]; omega
        · go_wp2
          go_round
          case rel => exact ⟨k + 1, by omega, by go_num, s, Lib.hid (by
            have e : l.take j = l := List.take_of_length_le (by rw [HM.out]; omega)
            rw [flatten_snoc HK.out, crcReg_append, ← H.out, HS.out, e]), rfl⟩
          case measure => simp [intOf]; omega
    · have hsig : IntKind.u32.signed = false := rfl
      have hmax : IntKind.u32.max = 4294967295 := by decide
      go_wp2
      go_ret
      have hk' : k = ls.length := by rw [HL.out]; omega
      refine ⟨ret_int ?_, H5.out⟩
      rw [not_reg', crc, H.out, hk', List.take_length]
end Go.Proofs.Ytgnghalcihoaaaa
