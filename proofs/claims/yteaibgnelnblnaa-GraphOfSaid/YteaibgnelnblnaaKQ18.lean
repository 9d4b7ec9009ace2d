/- Texts put together, for a law: MmG. -/
import Derived.Deep.LoopGhost
import Derived.Shelf.Abstract
import Derived.OwnWalkIn
import Derived.TacticsInMore
import Derived.LoopNIn
import Derived.LoopIn
import Derived.WalkKit
import Derived.Test.YteaibgnelnblnaaKQ10
import Derived.Test.YteaibgnelnblnaaKQ6
section
namespace Go.Proofs.Yteaibgnelnblnaa
open Go.RowKit Me

set_option maxRecDepth 100000 in
theorem values_any (A : Option Addr) (n c : Nat) (w : World) :
    Calls Try.prog 50 #[.slice A n c] w fun e w' => e = .returned (.func (.func 79) #[] #[.pointer (some ⟨w.heap.size, 0, none⟩)]) ∧ w' = w.alloc (.cells #[.slice A n c] 61) := by
  go_enter Try.func50, Try.ntmps50
  go_wp2
  go_ret
  exact ⟨rfl, rfl⟩
set_option maxRecDepth 100000 in
theorem stoppable_any (f : Value) (hf : f.oneCell' = true) (w : World) :
    Calls Try.prog 77 #[f] w fun e w' => e = .returned (.func (.func 99) #[] #[.pointer (some ⟨w.heap.size, 0, none⟩)]) ∧ w' = w.alloc (.cells #[f] 97) := by
  go_enter Try.func77, Try.ntmps77
  go_wp2
  go_ret
  exact ⟨rfl, rfl⟩
set_option maxRecDepth 100000 in
theorem each_any (f : Value) (hf : f.oneCell' = true) (w : World) :
    Calls Try.prog 49 #[f] w fun e w' => e = .returned (.func (.func 76) #[] #[.pointer (some ⟨w.heap.size, 0, none⟩)]) ∧ w' = w.alloc (.cells #[f] 97) := by
  go_enter Try.func49, Try.ntmps49
  go_wp2
  go_ret
  exact ⟨rfl, rfl⟩
theorem callsIn_any {P : Program} {n m : Nat} {g : FuncId} {args : Array Value} {w : World} {R : Ending → World → Prop} (h : CallsIn Fence.wide n P g args w R) : CallsIn Fence.wide m P g args w R := callsIn_wide.2 (callsIn_wide.1 h)
attribute [local go_sem] Oper.semAt_some
set_option maxRecDepth 100000 in
set_option maxHeartbeats 2000000 in
/-- What is handed to the keys' iterator. -/
theorem clos_in (l H : Nat) (K : Option Addr) (kn kc : Nat) (T : Nat → Prop) (J1 J2 : World → Prop) (W : World)
    (hY : YieldAt Fence.wide 1 Try.prog l #[.slice K kn kc] W fun e W' => Out T W W' ∧ ((e = .returned (.bool true) ∧ J1 W') ∨ (e = .returned (.bool false) ∧ J2 W')))
    (b0 : Blk W H [.func (.yield l) #[] #[]]) (b1 : Blk W (H + 1) [.bool true]) (n0 : ¬ T H) (n1 : ¬ T (H + 1)) :
    CallsIn Fence.wide 2 Try.prog 100 #[.slice K kn kc, .pointer (some ⟨H + 1, 0, none⟩), .pointer (some ⟨H, 0, none⟩)] W fun e W' =>
      ∃ W2, Out T W W2 ∧ ((e = .returned (.bool true) ∧ J1 W2 ∧ W' = W2.setCell ⟨H + 1, 0, none⟩ (.bool true)) ∨ (e = .returned (.bool false) ∧ J2 W2 ∧ W' = W2.setCell ⟨H + 1, 0, none⟩ (.bool false))) := by
  have c0 := b0.cell (i := 0) rfl
  have c1 := b1.cell (i := 0) rfl
  obtain ⟨fn, tmps, assign, body, hy, hRo⟩ := hY
  have HRo := Lib.hid hRo
  have B1 := Lib.hid b1
  have N1 := Lib.hid n1
  clear hRo b0 b1 n0 n1
  refine callsIn_of_wp Try.func100 rfl trivial ?_ rfl
  simp only [Try.ntmps100, List.size_toArray, List.length_cons, List.length_nil, Nat.reduceAdd, Nat.reduceSub, Array.replicate_succ, Array.replicate_zero, List.push_toArray, List.append_toArray, List.nil_append, List.cons_append]
  gi_wp2_with fail
  refine HRo.out.mono ?_
  rintro e W2 ⟨ho, ⟨rfl, hj⟩ | ⟨rfl, hj⟩⟩
  · have b2 := B1.out.out ho N1.out
    have d1 := b2.cell (i := 0) rfl
    have f1 := b2.frozen 0
    have FIN := Lib.hid (And.intro ho hj)
    clear hy ho hj b2 c0 c1
    gi_wp2
    go_ret
    exact ⟨W2, FIN.out.1, .inl ⟨rfl, FIN.out.2, rfl⟩⟩
  · have b2 := B1.out.out ho N1.out
    have d1 := b2.cell (i := 0) rfl
    have f1 := b2.frozen 0
    have FIN := Lib.hid (And.intro ho hj)
    clear hy ho hj b2 c0 c1
    gi_wp2
    go_ret
    exact ⟨W2, FIN.out.1, .inr ⟨rfl, FIN.out.2, rfl⟩⟩
/-- A key as it is handed on. -/
def kV (hi _B : Nat) (_O : Nat → Prop) (p : Pc) (av : Array Value) (W : World) : Prop := av = #[p.1] ∧ PcAt W hi p
theorem take_more {α : Type} {l : List α} {k : Nat} {x : α} (h : l[k]? = some x) : l = l.take k ++ x :: l.drop (k + 1) ∧ l.take (k + 1) = l.take k ++ [x] := by
  obtain ⟨h1, h2⟩ := List.getElem?_eq_some_iff.1 h
  refine ⟨?_, by rw [List.take_add_one, h]; rfl⟩
  rw [← h2, ← List.drop_eq_getElem_cons h1, List.take_append_drop]
/-- What the keys' iterator reads. -/
def KeyM (hi Bs Bk : Nat) (k : Nat) : Prop := k < hi ∨ k = Bs ∨ k = Bk
set_option maxRecDepth 100000 in
set_option maxHeartbeats 2000000 in
theorem values_in (l Bs Bk n c hi : Nat) (A : Option Addr) (es : List Pc) (S : Nat → Prop) (J Jx : (Nat → Prop) → List Pc → World → Prop) (W0 W : World) (hS : ∀ k, S k → k < W0.heap.size ∧ ¬ KeyM hi Bs Bk k) (hhi : hi ≤ W0.heap.size) (hJ : Ru.Stays J) (hJx : Ru.Stays Jx)
    (hY : ∀ O pre x post av W1, es = pre ++ x :: post → (∀ k, O k → W0.heap.size ≤ k ∧ k < W1.heap.size) → Out S W0 W1 → J O pre W1 → kV hi W0.heap.size O x av W1 → YieldAt Fence.wide 1 Try.prog l av W1 fun e W' =>
      Out (Ru.SO S W0.heap.size O) W1 W' ∧ ((e = .returned (.bool true) ∧ J O (pre ++ [x]) W') ∨ (e = .returned (.bool false) ∧ Jx O (pre ++ [x]) W')))
    (hl : es.length = n) (hn : n ≤ 1000000) (hBs : Blk W0 Bs [.slice A n c]) (hr : BRows W0 hi A es) (O : Nat → Prop) (hO : O = fun k => k = W0.heap.size ∨ k = W0.heap.size + 1)
    (b0 : Blk W W0.heap.size [.func (.yield l) #[] #[]]) (b1 : Blk W (W0.heap.size + 1) [.bool true]) (h0 : J O [] W) (ho : Out S W0 W) :
    CallsIn Fence.wide 3 Try.prog 79 #[.func (.func 100) #[] #[.pointer (some ⟨W0.heap.size + 1, 0, none⟩), .pointer (some ⟨W0.heap.size, 0, none⟩)], .pointer (some ⟨Bs, 0, none⟩)] W fun e W' =>
      (∃ v, e = .returned v) ∧ Out S W0 W' ∧ (J O es W' ∨ ∃ pre post, es = pre ++ post ∧ Jx O pre W') := by
  obtain ⟨H, hH⟩ : ∃ H, H = W0.heap.size := ⟨_, rfl⟩
  rw [← hH] at b0 b1 hO hS hhi hY ⊢
  have nS : ¬ S Bs := fun h => (hS _ h).2 (.inr (.inl rfl))
  have c0 := (hBs.out ho nS).cell (i := 0) rfl
  have NH := Lib.hid (show ¬ Ru.SO S H O H ∧ ¬ Ru.SO S H O (H + 1) from by
    rw [hO]
    exact ⟨fun h => h.elim (fun h => by have := (hS _ h).1; omega) (fun h => h.2 (.inl rfl)), fun h => h.elim (fun h => by have := (hS _ h).1; omega) (fun h => h.2 (.inr rfl))⟩)
  have HRD := Lib.hid (show ∀ W', Out S W0 W' → BRows W' hi A es from fun W' h => ⟨hr.row.keep fun p hp => h.cell (by omega) (fun hs => (hS _ hs).2 (.inl hp)), fun p hp => (hr.all p hp).keep fun a ha => h.cell (by omega) (fun hs => (hS _ hs).2 (.inl ha))⟩)
  have HIN := Lib.hid (show hi ≤ H ∧ H + 1 < W.heap.size from ⟨hhi, b1.lt⟩)
  have HO := Lib.hid hO
  have HS := Lib.hid hS
  have HJ := Lib.hid hJ
  have HJX := Lib.hid hJx
  have HY := Lib.hid hY
  have HL := Lib.hid hl
  have B0 := Lib.hid b0
  have B1 := Lib.hid b1
  have HJ0 := Lib.hid h0
  have HO0 := Lib.hid ho
  have HHE := Lib.hid hH
  clear hH hS hJ hJx hY hl hBs hr hO b0 b1 h0 ho hhi nS
  refine callsIn_of_wp Try.func79 rfl trivial ?_ rfl
  simp only [Try.ntmps79, List.size_toArray, List.length_cons, List.length_nil, Nat.reduceAdd, Nat.reduceSub, Array.replicate_succ, Array.replicate_zero, List.push_toArray, List.append_toArray, List.nil_append, List.cons_append]
  gi_wp2
  gi_loopw [7] (fun i wr => ∃ k : Nat, k ≤ n ∧ i = .int .i64 (k : Int) ∧ Hid (J O (es.take k) wr) ∧ Hid (Out S W0 wr) ∧ Hid (Blk wr H [.func (.yield l) #[] #[]] ∧ Blk wr (H + 1) [.bool true])) (fun i _ => n - (intOf i).toNat)
  case atStart => exact ⟨0, by omega, rfl, HJ0, HO0, Lib.hid ⟨B0.out, B1.out⟩⟩
  case round =>
    clear HJ0 HO0 c0
    obtain ⟨k, hk, rfl, HJK, HOK, HBK⟩ := hrel
    by_cases hlt : k < n
    · obtain ⟨p, hp⟩ : ∃ p, es[k]? = some p := ⟨_, List.getElem?_eq_getElem (by rw [HL.out]; exact hlt)⟩
      obtain ⟨a, A1, n1, c1, rfl, hab, hcl, hn1, hc1, hc63, hrd⟩ := (HRD.out wr HOK.out).at hp
      obtain ⟨hX, hT⟩ := take_more hp
      have hwH : H + 1 < wr.heap.size := HBK.out.2.lt
      have hP1 : p.1 = .slice A1 n1 c1 := by
        have h1 := (HRD.out wr HOK.out).row (by rw [List.length_map, HL.out]; omega)
        obtain ⟨a', ha', -, hc'⟩ := h1
        injection ha' with ha'
        subst ha'
        have h2 := hc' k p.1 (by rw [List.getElem?_map, hp]; rfl)
        rw [hcl] at h2
        injection h2 with h2
        exact h2.symm
      have hkv : kV hi H O p #[.slice A1 n1 c1] wr := ⟨by rw [hP1], ⟨A1, n1, c1, hP1, hn1, hc1, hc63, hrd⟩⟩
      have HCL := Lib.hid (clos_in l H A1 n1 c1 (Ru.SO S H O) _ _ wr (HY.out O (es.take k) p _ _ wr hX (fun j hj => by rw [HO.out] at hj; rcases hj with h | h <;> omega) HOK.out HJK.out hkv) HBK.out.1 HBK.out.2 NH.out.1 NH.out.2)
      have HT := Lib.hid hT
      have HX := Lib.hid hX
      clear hX hT hkv hP1 hrd hn1 hc1 hc63 hab hp
      have ecl : ∀ args w, (callFunc 100 args).run Try.prog w = .ok (.enter 100 args) w := Go.Proofs.enters_of Try.func100 (by kernel_rfl) rfl
      gi_wp2_with fail
      refine ⟨trivial, HCL.out.mono ?_⟩
      have hold : ∀ X Y, Out S W0 X → Out (Ru.SO S H O) X Y → Out S W0 Y := fun X Y h h' => h.trans' h' fun j hj => hj.elim .inl (fun h => .inr (by have := HHE.out; omega))
      have hO1 : O (H + 1) := by rw [HO.out]; exact .inr rfl
      rintro e W' ⟨W2, ho2, ⟨rfl, hj2, rfl⟩ | ⟨rfl, hj2, rfl⟩⟩
      · have oc : Out O W2 (W2.setCell ⟨H + 1, 0, none⟩ (.bool true)) := (Out.refl O W2).setCell (p := ⟨H + 1, 0, none⟩) (.inl hO1) _
        have HJ2 := Lib.hid (show J O (es.take (k + 1)) (W2.setCell ⟨H + 1, 0, none⟩ (.bool true)) from by
          rw [HT.out]
          exact HJ.out O O _ _ _ hj2 oc fun _ h => .inl h)
        have HO2 := Lib.hid ((hold _ _ HOK.out ho2).setCell (p := ⟨H + 1, 0, none⟩) (.inr (by have := HHE.out; show W0.heap.size ≤ H + 1; omega)) (.bool true))
        have HB2 := Lib.hid (And.intro ((HBK.out.1.out ho2 NH.out.1).other (p := ⟨H + 1, 0, none⟩) (show H + 1 ≠ H by omega) (.bool true)) ((HBK.out.2.out ho2 NH.out.2).set 0 (.bool true)))
        clear ho2 hj2 oc hold hO1
        gi_wp2
        go_roundw
        case rel => exact ⟨k + 1, by omega, by go_num, HJ2, HO2, HB2⟩
        case measure => simp [intOf]; omega
      · have oc : Out O W2 (W2.setCell ⟨H + 1, 0, none⟩ (.bool false)) := (Out.refl O W2).setCell (p := ⟨H + 1, 0, none⟩) (.inl hO1) _
        have FIN := Lib.hid (show Out S W0 (W2.setCell ⟨H + 1, 0, none⟩ (.bool false)) ∧ (J O es (W2.setCell ⟨H + 1, 0, none⟩ (.bool false)) ∨ ∃ pre post, es = pre ++ post ∧ Jx O pre (W2.setCell ⟨H + 1, 0, none⟩ (.bool false))) from
          ⟨(hold _ _ HOK.out ho2).setCell (p := ⟨H + 1, 0, none⟩) (.inr (by have := HHE.out; show W0.heap.size ≤ H + 1; omega)) _, .inr ⟨es.take k ++ [p], es.drop (k + 1), by rw [List.append_assoc]; exact HX.out, HJX.out O O _ _ _ hj2 oc fun _ h => .inl h⟩⟩)
        clear ho2 hj2 oc hold hO1
        gi_wp2
        refine bodyPost_ret (results_none rfl _ _ _) rfl ?_
        exact ⟨⟨_, rfl⟩, FIN.out⟩
    · obtain rfl : k = n := by omega
      have FIN := Lib.hid (show J O es wr by have := HJK.out; rw [List.take_of_length_le (by rw [HL.out]; exact Nat.le_refl _)] at this; exact this)
      gi_wp2
      go_end0
      exact ⟨⟨_, rfl⟩, HOK.out, .inl FIN.out⟩
theorem run_equalIn_func14 {P : Program} {w : World} (d : Nat) {t : TypeId} {ps rs : Array TypeId} {vd : Bool} (h : P.underlying t = some (.func ps rs vd)) (f : Fn) (x c : Array Value) :
    (Op.equalIn (d + 1) t (.func f x c) .nilFunc).run P w = .ok false w := by
  simp [Op.equalIn, run_underlying h]
theorem run_eql_func14 {P : Program} {w : World} {t : TypeId} {ps rs : Array TypeId} {vd : Bool} (h : P.underlying t = some (.func ps rs vd)) (f : Fn) (x c : Array Value) :
    (binOp .eql t (.func f x c) .nilFunc).run P w = .ok (.bool false) w := by
  have e : (Op.equal t (.func f x c) .nilFunc).run P w = .ok false w := run_equalIn_func14 9999 h f x c
  simp only [binOp]
  simp [e]
theorem run_equalIn_nil14 {P : Program} {w : World} (d : Nat) {t : TypeId} {ps rs : Array TypeId} {vd : Bool} (h : P.underlying t = some (.func ps rs vd)) :
    (Op.equalIn (d + 1) t .nilFunc .nilFunc).run P w = .ok true w := by
  simp [Op.equalIn, run_underlying h]
theorem run_eql_nil14 {P : Program} {w : World} {t : TypeId} {ps rs : Array TypeId} {vd : Bool} (h : P.underlying t = some (.func ps rs vd)) :
    (binOp .eql t .nilFunc .nilFunc).run P w = .ok (.bool true) w := by
  have e : (Op.equal t .nilFunc .nilFunc).run P w = .ok true w := run_equalIn_nil14 9999 h
  simp only [binOp]
  simp [e]
/-- The function that gives the keys. -/
structure KeysFn (w : World) (hi Bs Bk : Nat) (f : Value) (es : List Pc) : Prop where
  box : Blk w Bk [f]
  fn : (f = .nilFunc ∧ es = []) ∨ (f = .func (.func 79) #[] #[.pointer (some ⟨Bs, 0, none⟩)] ∧ ∃ A n c, es.length = n ∧ n ≤ 1000000 ∧ Blk w Bs [.slice A n c] ∧ BRows w hi A es)
  lim : hi ≤ w.heap.size
  bs : Bs < w.heap.size
theorem KeysFn.out {T : Nat → Prop} {w w' : World} {hi Bs Bk : Nat} {f : Value} {es : List Pc} (h : KeysFn w hi Bs Bk f es) (ho : Out T w w') (hn : ∀ k, T k → ¬ KeyM hi Bs Bk k) : KeysFn w' hi Bs Bk f es := by
  refine ⟨h.box.out ho (fun e => hn _ e (.inr (.inr rfl))), h.fn.imp id ?_, Nat.le_trans h.lim ho.size, Nat.lt_of_lt_of_le h.bs ho.size⟩
  rintro ⟨e, A, n, c, h1, h1', h2, h3⟩
  exact ⟨e, A, n, c, h1, h1', h2.out ho (fun e => hn _ e (.inr (.inl rfl))), h3.row.keep fun p hp => ho.cell (Nat.lt_of_lt_of_le hp h.lim) (fun e => hn _ e (.inl hp)), fun p hp => (h3.all p hp).keep fun a ha => ho.cell (Nat.lt_of_lt_of_le ha h.lim) (fun e => hn _ e (.inl ha))⟩
set_option maxRecDepth 100000 in
set_option maxHeartbeats 2000000 in
theorem stop_gives {w0 : World} {hi Bs Bk : Nat} {f : Value} {es : List Pc} (h0 : KeysFn w0 hi Bs Bk f es) :
    Ru.Gives Try.prog 99 #[.pointer (some ⟨Bk, 0, none⟩)] (kV hi) es (KeyM hi Bs Bk) w0 := fun nn l S J Jx W hW hS hJ hJx hY hj0 => by
  have h := h0.out (T := fun _ => False) (.of_below hW) (fun _ h => h.elim)
  refine callsIn_any (n := 3) ?_
  obtain ⟨H, hH⟩ : ∃ H, H = W.heap.size := ⟨_, rfl⟩
  have c0 := h.box.cell (i := 0) rfl
  have HF := Lib.hid h
  have HS := Lib.hid hS
  have HJ := Lib.hid hJ
  have HJX := Lib.hid hJx
  have HY := Lib.hid hY
  have HJ0 := Lib.hid hj0
  have HHE := Lib.hid hH
  clear h h0 hW hS hJ hJx hY hj0 hH
  refine callsIn_of_wp Try.func99 rfl trivial ?_ rfl
  simp only [Try.ntmps99, List.size_toArray, List.length_cons, List.length_nil, Nat.reduceAdd, Nat.reduceSub, Array.replicate_succ, Array.replicate_zero, List.push_toArray, List.append_toArray, List.nil_append, List.cons_append]
  rcases HF.out.fn with ⟨rfl, rfl⟩ | ⟨rfl, A, n, c, hl, hln, hbs, hbr⟩
  · have hk := HF.out.box.lt
    have hq := fun W : World => run_eql_nil14 (P := Try.prog) (w := W) Try.underlying97
    have FIN := Lib.hid (show Out S W (W.alloc (.cells #[.func (.yield l) #[] #[]] 129)) ∧ J (fun _ => False) [] (W.alloc (.cells #[.func (.yield l) #[] #[]] 129)) from
      ⟨.of_below ((Below.refl _ _).alloc (Nat.le_refl _) _), HJ.out.below HJ0.out ((Below.refl _ _).alloc (Nat.le_refl _) _)⟩)
    gi_wp2
    refine bodyPost_ret (results_none rfl _ _ _) rfl ?_
    exact ⟨⟨_, rfl⟩, FIN.out.1, fun _ => False, fun k h => h.elim, .inl FIN.out.2⟩
  · have hk := HF.out.box.lt
    have hq := fun W : World => run_eql_func14 (P := Try.prog) (w := W) Try.underlying97 (.func 79) #[] #[.pointer (some ⟨Bs, 0, none⟩)]
    obtain ⟨W1, hW1⟩ : ∃ W1, (W.alloc (.cells #[.func (.yield l) #[] #[]] 129)).alloc (.cells #[.bool true] 4) = W1 := ⟨_, rfl⟩
    have hb1 : Below W.heap.size W W1 := by rw [← hW1]; exact ((Below.refl _ _).alloc (Nat.le_refl _) _).alloc (by simp) _
    have hb0 : Blk W1 H [.func (.yield l) #[] #[]] := by rw [← hW1, HHE.out]; exact (Blk.new W [.func (.yield l) #[] #[]] _).alloc _
    have hbm : Blk W1 (H + 1) [.bool true] := by rw [← hW1, HHE.out]; exact Blk.new' (W.alloc _) [.bool true] _ (by simp)
    have hJ1 : J (fun k => k = W.heap.size ∨ k = W.heap.size + 1) [] W1 := by
      refine HJ.out (fun _ => False) _ [] W W1 HJ0.out (.of_below hb1) fun k hk => .inr ?_
      rcases hk with e | e <;> omega
    rw [HHE.out] at hb0 hbm
    have HV := Lib.hid (values_in l Bs Bk n c hi A es S J Jx W W1 HS.out HF.out.lim HJ.out HJX.out HY.out hl hln hbs hbr _ rfl hb0 hbm hJ1 (.of_below hb1))
    have d0 := (hb1.cell (p := ⟨Bk, 0, none⟩) hk).trans c0
    have ev : ∀ args w, (callFunc 79 args).run Try.prog w = .ok (.enter 79 args) w := Go.Proofs.enters_of Try.func79 (by kernel_rfl) rfl
    have HW1 := Lib.hid hW1
    clear hb1 hb0 hbm hJ1 hl hln hbs hbr hW1
    gi_wp2_with fail
    rw [HW1.out]
    refine ⟨trivial, (callsIn_any HV.out).mono ?_⟩
    rintro e W' ⟨⟨v, rfl⟩, ho, hj⟩
    have FIN := Lib.hid (show Out S W W' ∧ ∃ O : Nat → Prop, (∀ k, O k → W.heap.size ≤ k) ∧ (J O es W' ∨ ∃ pre post, es = pre ++ post ∧ Jx O pre W') from ⟨ho, fun k => k = W.heap.size ∨ k = W.heap.size + 1, fun k hk => by rcases hk with e | e <;> omega, hj⟩)
    clear ho hj
    gi_wp2
    go_end0
    exact ⟨⟨_, rfl⟩, FIN.out⟩
end Go.Proofs.Yteaibgnelnblnaa
end
