/-
  A list of bytes as a text's value (no function of Tryd is named here).
-/
import Derived.Test.YtgagandecjljoaaDoorFigNames
namespace Go.Proofs.YtgagandecjljoaaDoor
open Go.RowKit

def txt (x : List UInt8) : ByteArray := ⟨x.toArray⟩
def str (x : List UInt8) : Value := .string (txt x)
theorem txt_toList (x : List UInt8) : (txt x).data.toList = x := by simp [txt]
theorem txt_size (x : List UInt8) : (txt x).size = x.length := by simp [txt, ByteArray.size]
theorem txt_of (s : ByteArray) : txt s.data.toList = s := by simp [txt]
theorem str_of (s : ByteArray) : str s.data.toList = .string s := by rw [str, txt_of]
theorem txt_inj {x y : List UInt8} (h : txt x = txt y) : x = y := by rw [← txt_toList x, h, txt_toList]
theorem toList_txt (x : List UInt8) : (txt x).toList = x := by rw [ByteArray.toList_eq, txt_toList]
end Go.Proofs.YtgagandecjljoaaDoor

