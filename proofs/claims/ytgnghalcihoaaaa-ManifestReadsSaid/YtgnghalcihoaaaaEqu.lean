/- Equality of bytes: bytes.Equal. -/
import Derived.Test.YtgnghalcihoaaaaByt
namespace Go.Proofs.Ytgnghalcihoaaaa
open Go.RowKit Me

set_option maxRecDepth 100000 in
set_option maxHeartbeats 400000 in
theorem equal_any (A A' : Option Addr) (n c n' c' : Nat) (l m : List UInt8) (w : World) (B B' : Nat) (hl : l.length = n) (hr : Rd w B A l) (hm : m.length = n') (hr' : Rd w B' A' m) :
    Calls Try.prog 101 #[.slice A n c, .slice A' n' c'] w fun e w' => e = .returned (.bool (l == m)) ∧ w = w' := by
  have h1 := str_any A n c l w B hl hr
  have h2 := str_any A' n' c' m w B' hm hr'
  clear hl hr hm hr'
  go_enter Try.func101, Try.ntmps101
  go_wp2
  go_ret
  exact ⟨rfl, rfl⟩
end Go.Proofs.Ytgnghalcihoaaaa
