/- The same texts twice are the same; the document's example. -/
import Derived.Test.YtbedepnmgnlijaaDoorTxN
namespace Go.Proofs.YtbedepnmgnlijaaDoor
open Go.RowKit Me Tx Go.Shelf Go.Lib

/-- What is known of each slot of the region that compares. -/
def smG (a1 a2 : Addr) (n c1 c2 k : Nat) (x : List UInt8) : Gw.Fact := fun s v _ =>
  match s with
  | 0 | 16 => v = .slice (some a1) n c1
  | 1 | 20 => v = .slice (some a2) n c2
  | 5 | 17 | 21 => v = .int .i64 (k : Int)
  | 18 => v = .pointer (some (a1.add k))
  | 22 => v = .pointer (some (a2.add k))
  | 19 | 23 => v = sv x
  | 24 => v = .bool false
  | _ => True
/-- What is known of each slot of the example's last line. -/
theorem awake_words : wordsG [] (⟨#[32, 97, 9, 98, 32]⟩ : ByteArray).data.toList = [[97], [98]] := by decide
theorem awake_num : numS (⟨#[48, 48, 55]⟩ : ByteArray).data.toList 10 = (0, 3) := by decide
end Go.Proofs.YtbedepnmgnlijaaDoor
