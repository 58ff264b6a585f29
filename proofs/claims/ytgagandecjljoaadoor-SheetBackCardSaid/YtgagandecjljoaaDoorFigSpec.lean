/-
  Plain facts on lists of bytes for layer 1: what a digit, a number's text and a name are. No program.
-/
import Derived.WalkKit
namespace Go.Proofs.YtgagandecjljoaaDoor.Fig

def dig (c : UInt8) : Bool := decide (48 ≤ (c.toNat : Int) ∧ (c.toNat : Int) ≤ 57)
def let_ (c : UInt8) : Bool := decide ((97 ≤ (c.toNat : Int) ∧ (c.toNat : Int) ≤ 122) ∨ (65 ≤ (c.toNat : Int) ∧ (c.toNat : Int) ≤ 90))
def nameB (l : List UInt8) : Bool := decide (1 ≤ l.length ∧ l.length ≤ 8) && l.all fun c => dig c || let_ c
/-- the number that the digits tell -/
def val (l : List UInt8) : Int := l.foldl (fun n c => 10 * n + ((c.toNat : Int) - 48)) 0
def pad (l : List UInt8) : Bool := decide (1 < l.length) && l.head? == some 48
def form (l : List UInt8) : Bool := decide (1 ≤ l.length ∧ l.length ≤ 13) && !pad l && l.all dig
def parseB (l : List UInt8) (most : Int) : Bool := form l && decide (val l ≤ most)
def parseN (l : List UInt8) (most : Int) : Int := if parseB l most then val l else 0

theorem val_snoc (l : List UInt8) (c : UInt8) : val (l ++ [c]) = 10 * val l + ((c.toNat : Int) - 48) := by
  simp [val, List.foldl_append]
theorem val_bd (l : List UInt8) (h : l.all dig = true) : 0 ≤ val l ∧ val l < 10 ^ l.length := by
  suffices H : ∀ (r : List UInt8), r.all dig = true → 0 ≤ val r.reverse ∧ val r.reverse < 10 ^ r.length by
    have := H l.reverse (by simpa using h)
    simpa using this
  intro r
  induction r with
  | nil => intro _; simp [val]
  | cons c r ih =>
    intro h
    simp only [List.all_cons, Bool.and_eq_true] at h
    have h1 := ih h.2
    have h2 : 48 ≤ (c.toNat : Int) ∧ (c.toNat : Int) ≤ 57 := by simpa [dig] using h.1
    rw [List.reverse_cons, val_snoc]
    simp only [List.length_cons, Int.pow_succ]
    omega
end Go.Proofs.YtgagandecjljoaaDoor.Fig

