/- Words that this seat's contracts share; strings as lists of bytes. -/
import Derived.Test.YtfnobibjphnmdaaGreatDoorRows
import Derived.Test.YtfnobibjphnmdaaGreatDoorKMath
import Derived.Test.YtfnobibjphnmdaaGreatDoorWords
import Derived.WalkKit
import Derived.OwnWalk
import Derived.Below
import Derived.OneCell
import Derived.Laws.BitsAllLaws
import Derived.Laws.Bits64
import Derived.Lib.Hide
namespace Go.Proofs.YtfnobibjphnmdaaGreatDoor
open Go.RowKit

theorem unhide {p : Prop} (h : Hid p) : p := h
theorem hide {p : Prop} (h : p) : Hid p := h
theorem below_on {a w w' : World} (h : Below a.heap.size a w) (k : Below w.heap.size w w') : Below a.heap.size a w' := h.trans (k.mono h.size)
theorem lt_of_heap {w : World} {k : Nat} {o : Obj} (h : w.heap[k]? = some o) : k < w.heap.size := by
  rcases Nat.lt_or_ge k w.heap.size with h1 | h1
  · exact h1
  · rw [Array.getElem?_eq_none h1] at h; cases h
/-- A string's bytes. -/
def str (s : ByteArray) : List Nat := s.data.toList.map UInt8.toNat
theorem str_length (s : ByteArray) : (str s).length = s.size := by unfold str; rw [List.length_map, Array.length_toList]; rfl
theorem str_small (s : ByteArray) : ∀ b ∈ str s, b < 256 := fun b hb => by
  obtain ⟨u, _, rfl⟩ := List.mem_map.1 hb
  exact u.toNat_lt
theorem str_inj {s t : ByteArray} (h : str s = str t) : s = t := by
  unfold str at h
  have h2 : s.data.toList = t.data.toList := by
    refine List.map_inj_right ?_ |>.1 h
    intro x y hxy
    exact UInt8.toNat_inj.1 hxy
  cases s
  cases t
  congr 1
  exact Array.toList_inj.1 h2
theorem str_extract (s : ByteArray) (a b : Nat) : str (s.extract a b) = ((str s).drop a).take (b - a) := by
  unfold str
  rw [ByteArray.data_extract, Array.toList_extract, List.extract_eq_take_drop, List.map_take, List.map_drop]
theorem str_append (s t : ByteArray) : str (s ++ t) = str s ++ str t := by
  unfold str
  rw [ByteArray.data_append, Array.toList_append, List.map_append]
theorem str_get (s : ByteArray) (k : Nat) (h : k < s.size) : (str s)[k]? = some (s[k]'h).toNat := by
  unfold str
  rw [List.getElem?_map, Array.getElem?_toList, Array.getElem?_eq_getElem (show k < s.data.size from h)]
  rfl
end Go.Proofs.YtfnobibjphnmdaaGreatDoor
