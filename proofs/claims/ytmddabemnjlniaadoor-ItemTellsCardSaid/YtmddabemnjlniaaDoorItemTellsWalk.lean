/-
  The walk of the law ItemTells: it returns true.
-/
import Derived.Test.YtmddabemnjlniaaDoorItTellsNeg
namespace Go.Proofs.YtmddabemnjlniaaDoor
open Go.RowKit

theorem itemTells_walk (k : Int) (nm : ByteArray) (n : Int) (a : ByteArray) (ac : UInt8) (b : ByteArray) (bc : UInt8) (s : ByteArray) (W : World) (hn : n ≤ 9223372036854775807) (hm : nm.size ≤ maxLen) (ha : a.size ≤ maxLen) (hb : b.size ≤ maxLen) (ws : s.size ≤ maxLen) (hE : Env W) :
    Calls Tryd.prog 3 #[.agg #[.int .i64 k, .string nm, .int .i64 n, .string a, .int .u8 ac.toNat, .string b, .int .u8 bc.toNat], .string s] W fun e w' => e = .returned (.bool true) ∧ Below W.heap.size W w' := by
  by_cases h : shortB nm a b = true
  · by_cases hl : 200 < s.size
    · exact it_long k nm n a ac b bc s W hm ha hb ws hE (Or.inr ⟨h, hl⟩)
    · by_cases hneg : n < 0
      · exact it_neg k nm n a ac b bc s W hn hm ha hb ws hE h hl hneg
      · exact it_pos k nm n a ac b bc s W hn hm ha hb ws hE h hl hneg
  · exact it_long k nm n a ac b bc s W hm ha hb ws hE (Or.inl (by simpa using h))
end Go.Proofs.YtmddabemnjlniaaDoor

