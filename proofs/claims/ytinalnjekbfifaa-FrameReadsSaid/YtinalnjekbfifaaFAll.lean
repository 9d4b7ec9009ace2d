/- All sections of bytes, the program's. -/
import Derived.Test.YtinalnjekbfifaaRefFGet
namespace Go.Proofs.Ytinalnjekbfifaa
open Go.RowKit Cr Me Fr

theorem sec_info : (Try.prog.info? 30).map (fun i => (i.zero, i.size, i.bytes)) = some (some (.agg #[.int .u8 0, .slice none 0 0]), 2, 32) := by kernel_rfl
/-- Sections and an error's number are answered. -/
def SAllPost (w : World) (R : List SecD × Int) (e : Ending) (w' : World) : Prop :=
  Below w.heap.size w w' ∧ ∃ L k d, e = .returned (.tuple #[.slice L k d, .int .i64 R.2]) ∧ R.1.length = k ∧ Secs w' w'.heap.size L R.1
/-- What stands behind some rounds: the bytes that are left, the sections that there are. -/
def SAllRel (w : World) (R : List SecD × Int) (N : Nat) (bv v : Value) (wr : World) : Prop :=
  ∃ A n c b f L k d acc vs, bv = .slice A n c ∧ v = .slice L k d ∧ b.length = n ∧ n ≤ c ∧ c ≤ 9223372036854775807 ∧ Rd w w.heap.size A b ∧ acc.length = k ∧ k * 13 + n ≤ N ∧ n ≤ f ∧ allS f acc b = R ∧
    wr.ownsRow w.heap.size 30 2 v k vs ∧ SecCells wr wr.heap.size vs acc ∧ SecOff v.ownBlock vs acc ∧ Below w.heap.size w wr
theorem two_cells {k : Int} {A : Option Addr} {n c : Nat} : ∀ v ∈ ([.int .u8 k, .slice A n c] : List Value), v.oneCell' = true := by
  intro v hv
  simp only [List.mem_cons, List.not_mem_nil, or_false] at hv
  rcases hv with rfl | rfl <;> rfl
/-- A round's end: a section more. -/
theorem sall_next {w w2 w5 : World} {R : List SecD × Int} {N n c f k q : Nat} {A : Option Addr} {b : List UInt8} {v v5 : Value} {acc : List SecD} {vs : List Value} {s : SecD} {Y : Option Addr} {m dd : Nat}
    (hb : b.length = n) (hc : n ≤ c) (hc63 : c ≤ 9223372036854775807) (hr : Rd w w.heap.size A b) (hk : acc.length = k) (hN : k * 13 + n ≤ N) (hf : n ≤ f) (hall : allS f acc b = R) (hn : 0 < n) (hg : getS b = (s, q, 0))
    (hown : w2.ownsRow w.heap.size 30 2 v k vs) (hcells : SecCells w2 w2.heap.size vs acc) (hoff : SecOff v.ownBlock vs acc)
    (hm : s.body.length = m) (hm1 : m ≤ 1048576) (hr2 : Rd w2 w2.heap.size Y s.body) (hy : 0 < s.body.length → ∀ a n c, Value.slice Y m dd = .slice (some a) n c → v.ownBlock ≠ some a.block) (hb2 : Below w.heap.size w w2)
    (ho5 : w5.ownsRow w.heap.size 30 2 v5 (k + 1) (vs ++ [.int .u8 (s.kind.toNat : Int), .slice Y m dd])) (hg5 : w2.grownBy w5 v.ownBlock) (hat : v5.ownBlock = v.ownBlock ∨ ∃ g, v5.ownBlock = some g ∧ w2.heap.size ≤ g) :
    SAllRel w R N (.slice (if c = q then A else A.map (·.add q)) (n - q) (c - q)) v5 w5 := by
  have hq : q = s.body.length + 13 ∧ q ≤ n := by
    rcases getS_cases b with ⟨x, h1, h2⟩ | ⟨s', n', h1, h2, -, h4⟩
    · rw [hg] at h1
      injection h1 with _ h1
      injection h1 with _ h1
      exact absurd h1.symm h2
    · rw [hg] at h1
      injection h1 with h1 h3
      injection h3 with h3
      subst h1
      exact ⟨by omega, by omega⟩
  obtain ⟨f', rfl⟩ : ∃ f', f = f' + 1 := ⟨f - 1, by omega⟩
  rw [allS_next (fun e => by rw [e] at hb; simp at hb; omega) hg] at hall
  obtain ⟨L, d, rfl, -⟩ := own_slice' ho5
  have hbv : BodyV w2 w2.heap.size (.slice Y m dd) s.body := ⟨Y, m, dd, rfl, hm, by omega, hr2⟩
  refine ⟨_, n - q, c - q, b.drop q, f', L, k + 1, d, acc ++ [s], _, rfl, rfl, by rw [List.length_drop, hb], by omega, by omega, hr.drop (by omega), by simp [hk], by omega, by omega, hall, ho5, ?_, ?_, hb2.grown hg5 hb2.size (fun g hgg => (hown.lt g hgg).1)⟩
  · exact ((SecCells.snoc hbv hcells).grown hg5 (Nat.le_refl _) (SecOff.snoc hy hoff)).more hg5.size
  · rcases hat with h | ⟨g, h, hlt⟩
    · rw [h]; exact SecOff.snoc hy hoff
    · rw [h]; exact SecOff.of_new hlt (SecCells.snoc hbv hcells)
set_option maxRecDepth 100000 in
set_option maxHeartbeats 2000000 in
theorem fall_any (A : Option Addr) (n c : Nat) (b : List UInt8) (w : World) (hb : b.length = n) (hc : n ≤ c) (hc63 : c ≤ 9223372036854775807) (hn : n ≤ 35184372088832) (hr : Rd w w.heap.size A b) :
    Calls Try.prog 11 #[.slice A n c] w (SAllPost w (secsOf b)) := by
  obtain ⟨i0, hi0, hz0, hz1, hz2⟩ := info_parts sec_info
  obtain ⟨R, hR⟩ : ∃ R, R = secsOf b := ⟨_, rfl⟩
  rw [← hR]
  have HREL := Lib.hid (show SAllRel w R n (.slice A n c) (.slice none 0 0) w from
    ⟨A, n, c, b, b.length, none, 0, 0, [], [], rfl, rfl, hb, hc, hc63, hr, rfl, by omega, by omega, hR.symm, World.ownsRow_nil _ _ _ _, trivial, trivial, Below.refl _ _⟩)
  clear hb hr hR
  go_enter Try.func11, Try.ntmps11
  go_wp2
  go_loopw [0, 4] (fun bv v wr => Hid (SAllRel w R n bv v wr)) (fun bv _ _ => sliceLen bv)
  case atStart => exact HREL
  case round =>
    clear HREL
    obtain ⟨A, n', c', b, f, L, k, d, acc, vs, rfl, rfl, hb, hc', hc63', hr, hk, hN, hf, hall, hown, hcells, hoff, hbw⟩ := hrel.out
    have HB := Lib.hid hb
    have HR := Lib.hid hr
    have HK := Lib.hid hk
    have HALL := Lib.hid hall
    have HW := Lib.hid hown
    have HCS := Lib.hid hcells
    have HOFF := Lib.hid hoff
    have HBW := Lib.hid hbw
    have hsz := hbw.size
    clear hb hr hk hall hown hcells hoff hbw hrel
    by_cases h0 : 0 < n'
    · obtain ⟨s, q, x, hg⟩ : ∃ s q x, getS b = (s, q, x) := ⟨_, _, _, rfl⟩
      have HG := Lib.hid hg
      clear hg
      go_wp2_with fail
      refine (fget_any A n' c' b wr HB.out hc' hc63' ((HR.out.below HBW.out).more hsz)).mono ?_
      rw [HG.out]
      rintro e w2 ⟨hb2, Y, m, dd, rfl, hm, hm1, hr2, hnw⟩
      have hb2w := HBW.out.trans (hb2.mono hsz)
      have HB2 := Lib.hid hb2w
      have HM := Lib.hid (show s.body.length = m from hm)
      have HR2 := Lib.hid (show Rd w2 w2.heap.size Y s.body from hr2)
      have HY := Lib.hid (show 0 < s.body.length → ∀ a n c, Value.slice Y m dd = .slice (some a) n c → (Value.slice L k d).ownBlock ≠ some a.block from fun h a n c e he => by
        obtain ⟨a', e', hge⟩ := hnw h
        rw [e'] at e
        injection e with e
        injection e with e
        subst e
        have := (HW.out.lt _ he).2
        omega)
      have HW2 := Lib.hid (own_below' HW.out hb2)
      have HCS2 := Lib.hid ((HCS.out.below hb2).more hb2.size)
      have hs2 := hb2w.size
      have T2 := Lib.hid (Two.new w2 (.int .u8 (s.kind.toNat : Int)) (.slice Y m dd) 30)
      have hb3 : Below w2.heap.size w2 (w2.alloc (.cells #[.int .u8 (s.kind.toNat : Int), .slice Y m dd] 30)) := (Below.refl _ _).alloc (Nat.le_refl _) _
      have hb4 : Below w2.heap.size w2 ((w2.alloc (.cells #[.int .u8 (s.kind.toNat : Int), .slice Y m dd] 30)).alloc (.cells #[.int .u8 (s.kind.toNat : Int), .slice Y m dd] 30)) := hb3.alloc hb3.size _
      have HB3 := Lib.hid hb3
      have HB4 := Lib.hid hb4
      clear hb2 hb2w hm hr2 hnw hb3 hb4
      obtain ⟨r0, r1, -, -⟩ := T2.out
      have hne0 : b ≠ [] := fun e => by have := HB.out; rw [e] at this; simp at this; omega
      have HNE := Lib.hid hne0
      have hk8 := s.kind.toNat_lt
      clear hne0
      by_cases hx : x = 0
      · subst hx
        have hn8 : (k + 1) * 32 ≤ 140737488355328 := by omega
        have hnm : k + 1 ≤ maxLen := by unfold maxLen; omega
        have hqn : q ≤ n' ∧ 0 < q := by
          rcases getS_cases b with ⟨x, h1, h2⟩ | ⟨s', n', h1, h2, -, h4⟩
          · rw [HG.out] at h1
            injection h1 with _ h1
            injection h1 with _ h1
            exact absurd h1.symm h2
          · rw [HG.out] at h1
            injection h1 with h1 h3
            injection h3 with h3
            have := HB.out
            omega
        obtain ⟨hq1, hq2⟩ := hqn
        obtain ⟨a, rfl⟩ : ∃ a, A = some a := by
          obtain ⟨a, e, -⟩ := HR.out (by rw [HB.out]; exact h0)
          exact ⟨a, e⟩
        have q1 : (q : Int) ≤ (n' : Int) := by omega
        have q2 : (n' : Int) ≤ (c' : Int) := by omega
        go_wp2_with (at_builtin
                     refine wpList_append_own_at (w := (w2.alloc (.cells #[.int .u8 (s.kind.toNat : Int), .slice Y m dd] 30)).alloc (.cells #[.int .u8 (s.kind.toNat : Int), .slice Y m dd] 30)) rfl (.tmp 20) (.tmp 22) 22 rfl w.heap.size 30 i0 _ 2 32 Try.underlying22 hi0 hz0 hz1 hz2 rfl (by decide) (.slice L k d) k _ rfl ((HW2.out.alloc _).alloc _) ⟨w2.heap.size + 1, 0, none⟩ 1 1 [.int .u8 (s.kind.toNat : Int), .slice Y m dd] rfl rfl (two_lit (by simp)) two_cells hnm hn8 (by simp; omega) ?_
                     intro v5 w5 hown5 hg5 _ hat5)
        have HREL := Lib.hid (sall_next (N := n) HB.out hc' hc63' HR.out HK.out hN hf HALL.out h0 HG.out ((HW2.out.alloc _).alloc _) ((HCS2.out.below HB4.out).more HB4.out.size) HOFF.out HM.out hm1 ((HR2.out.below HB4.out).more HB4.out.size) HY.out (HB2.out.trans (HB4.out.mono hs2)) hown5 hg5 (by
            rcases hat5 with h | h
            · exact .inl h
            · exact .inr ⟨_, h, Nat.le_refl _⟩))
        exact ⟨HREL, by show n' - q < n'; omega⟩
      · have hxn : (x != 0) = true := by rw [bne_iff_ne]; exact hx
        have HBAD := Lib.hid (show R = ([], x) by
          obtain ⟨f', rfl⟩ : ∃ f', f = f' + 1 := ⟨f - 1, by omega⟩
          rw [← HALL.out, allS_bad HNE.out HG.out hx])
        have HE := Lib.hid (HB2.out.trans (HB3.out.mono hs2))
        clear hx
        go_wp2
        exact bodyPost_ret (v := .tuple #[.slice none 0 0, .int .i64 x]) (by simp [results, Try.results11, go_sem]) rfl (by rw [HBAD.out]; exact ⟨HE.out, none, 0, 0, rfl, rfl, Secs.empty⟩)
    · have HEND := Lib.hid (show R = (acc, 0) by
        have hb0 : b = [] := List.eq_nil_of_length_eq_zero (by rw [HB.out]; omega)
        rw [← HALL.out, hb0, allS_nil])
      go_wp2
      exact bodyPost_ret (v := .tuple #[.slice L k d, .int .i64 0]) (by simp [results, Try.results11, go_sem]) rfl (by rw [HEND.out]; exact ⟨HBW.out, L, k, d, rfl, HK.out, Secs.of_own HW.out HCS.out⟩)
end Go.Proofs.Ytinalnjekbfifaa
