/-
 Texts of this claim, merged: FlRefB, NrTab.
-/
import Derived.Test.YtncphjodaklleaaGreatMg02
import Derived.Test.YtncphjodaklleaaGreatMg12
import Derived.Test.YtncphjodaklleaaGreatMg18
import Derived.BigQuiet
import Derived.Deep.CutRange
import Derived.Deep.RegionHeld3
import Derived.Deep.RegionLaw
namespace Go.Proofs.YtncphjodaklleaaGreat
open Go.RowKit
namespace Fl
abbrev saw (g:G) (q:Int):G:={ g with seen:=g.seen++[q] }
section
variable {p : Pl.Plan} {own : List Wk.Stp} {k : Nat} {s e q f : Int} {ok : Bool} {g : G} (hn : Wk.next p s e = (q, f, ok)) (hE : ends_ p own s e g = false)
include hn hE
theorem on_told (hx:0≤Wk.signal p q f):on p own (k+1) s e g={ saw g q with fl:=put g.fl (Wk.signal p q f) }:=by
 unfold on
 rw [if_neg (by rw[hE];decide),hn]
 simp only
 rw [if_pos hx]
end
end Fl
section
variable {p : Pl.Plan} (hf : Pl.Fit p) {A : Option Addr} {c : Nat} {A' : Option Addr} {c' : Nat} {B : Option Addr} {d : Nat} {own : List Wk.Stp} {G : Nat} {w0 : World} (hI : PlanIn w0 p A A') (hL : LStp.Row w0 B own) (hl : own.length ≤ 500)
include hf hI hL hl
end
end Go.Proofs.YtncphjodaklleaaGreat
namespace Go.Proofs.YtncphjodaklleaaGreat.Nr
open Go Pl Wk
def slot (a:Nat × Nat):Nat:=3 * a.1+a.2
theorem slot_inj {a b:Nat × Nat} (ha:a.2<3) (hb:b.2<3) (h:slot a=slot b):a=b:=by
 unfold slot at h
 have h1:a.1=b.1:=by omega
 have h2:a.2=b.2:=by omega
 exact Prod.ext h1 h2
theorem slot_lt {n:Nat} {a:Nat × Nat} (h1:a.1<n) (h2:a.2<3):slot a<3 * n:=by unfold slot;omega
def bet (T:List Int) (a:Nat × Nat) (n:Int):List Int:=T.set (slot a) n
theorem at_bet_same {T:List Int} {a:Nat × Nat} {n:Int} (h:slot a<T.length):at_ (bet T a n) a=n:=by
 unfold at_ bet
 show ((T.set (slot a) n)[slot a]?).getD (-1)=n
 rw [List.getElem?_set_self h]
 rfl
theorem at_bet_other {T:List Int} {a b:Nat × Nat} {n:Int} (ha:a.2<3) (hb:b.2<3) (h:b≠a):at_ (bet T a n) b=at_ T b:=by
 unfold at_ bet
 show ((T.set (slot a) n)[slot b]?).getD (-1)=_
 rw [List.getElem?_set_ne (fun e=>h (slot_inj hb ha e.symm))]
 rfl
def weight (ap:Int) (T:List Int):Nat:=(T.map fun x=>if x<0 then ap.toNat else x.toNat).sum
theorem weight_set {ap:Int}:∀ {T:List Int} {i:Nat} {x n:Int},T[i]? = some x→0≤n→n<ap→(x<0∨n<x)→weight ap (T.set i n)<weight ap T
 | [],i,x,n,h,_,_,_=>by simp at h
 | y :: T,0,x,n,h,h0,h1,h2=>by
   obtain rfl:y=x:=by simpa using h
   show ((if n<0 then ap.toNat else n.toNat)+weight ap T)<((if y<0 then ap.toNat else y.toNat)+weight ap T)
   rw [if_neg (by omega)]
   split <;> omega
 | y :: T,i+1,x,n,h,h0,h1,h2=>by
   have:=weight_set (T:=T) (i:=i) (x:=x) (n:=n) (by simpa using h) h0 h1 h2
   show (_+weight ap (T.set i n))<(_+weight ap T)
   omega
theorem at_get {T:List Int} {a:Nat × Nat} (h:slot a<T.length):T[slot a]? = some (at_ T a):=by
 unfold at_
 show _=some ((T[slot a]?).getD (-1))
 rw [List.getElem?_eq_getElem h]
 rfl
theorem Sound.bet {p:Plan} {ap:Int} {st:Nat × Nat} {T:List Int} (h:Sound p ap st T) (hst:st.2<3) {b:Nat × Nat} {n:Int} (hb1:b.1<p.secs.length) (hb2:b.2<3) (h0:0≤n) (hn:n<ap) (hr:Reach p st b n) (hlt:at_ T b<0∨n<at_ T b):Sound p ap st (Nr.bet T b n)∧weight ap (Nr.bet T b n)<weight ap T:=by
 have hs:slot b<T.length:=by rw[h.len];exact slot_lt hb1 hb2
 have hne:st≠b:=by
  rintro rfl
  rw [h.first] at hlt
  omega
 refine ⟨⟨by unfold Nr.bet;rw[List.length_set];exact h.len,fun a ha1 ha2=>?_,?_⟩,weight_set (at_get hs) h0 hn hlt⟩
 ·by_cases e:a=b
  ·subst e
   rw [at_bet_same hs]
   exact .inr ⟨h0,hn,hr⟩
  ·rw [at_bet_other hb2 ha2 e]
   exact h.least a ha1 ha2
 ·rw [at_bet_other hb2 hst hne]
  exact h.first
def Blank (T:List Int) (n k:Nat):Prop:=T.length=3 * n∧∀ a:Nat × Nat,a.1<k→a.2<3→at_ T a = -1
theorem Blank.next {T:List Int} {n k:Nat} (h:Blank T n k) (hk:k<n):Blank (bet (bet (bet T (k,0) (-1)) (k,1) (-1)) (k,2) (-1)) n (k+1):=by
 have l1:(bet T (k,0) (-1)).length=3 * n:=by unfold bet;rw[List.length_set];exact h.1
 have l2:(bet (bet T (k,0) (-1)) (k,1) (-1)).length=3 * n:=by unfold bet;rw[List.length_set];exact l1
 refine ⟨by unfold bet;rw[List.length_set];exact l2,fun a ha1 ha2=>?_⟩
 by_cases e2:a=(k,2)
 ·subst e2
  exact at_bet_same (by rw[l2];exact slot_lt hk (by show _<3;omega))
 rw [at_bet_other (by show _<3;omega) ha2 e2]
 by_cases e1:a=(k,1)
 ·subst e1
  exact at_bet_same (by rw[l1];exact slot_lt hk (by show _<3;omega))
 rw [at_bet_other (by show _<3;omega) ha2 e1]
 by_cases e0:a=(k,0)
 ·subst e0
  exact at_bet_same (by rw[h.1];exact slot_lt hk (by show _<3;omega))
 rw [at_bet_other (by show _<3;omega) ha2 e0]
 refine h.2 a ?_ ha2
 rcases Nat.lt_or_ge a.1 k with h3 | h3
 ·exact h3
 ·exfalso
  have h4:a.1=k:=by omega
  obtain ⟨s,e⟩:=a
  simp only at h4 ha2
  subst h4
  match e,ha2 with
  | 0,_=>exact e0 rfl
  | 1,_=>exact e1 rfl
  | 2,_=>exact e2 rfl
def ClosedTo (p:Plan) (ap:Int) (T:List Int) (a:Nat × Nat) (n:Int) (k:Nat):Prop:=∀ from_:Nat,from_<k→(∃ x∈outs p a.1 from_,x.t=(a.2:Int))→∀ b:Nat × Nat,next p a.1 from_=((b.1:Int),(b.2:Int),true)→n<ap→0≤at_ T b∧at_ T b≤n
theorem ClosedTo.all {p:Plan} {ap:Int} {T:List Int} {a:Nat × Nat} (h:ClosedTo p ap T a (at_ T a+lenAt p a.1) 3):ClosedAt p ap T a:=by
 intro _ b ⟨k,hk,hx,hn⟩ hl
 exact h k hk hx b hn hl
end Go.Proofs.YtncphjodaklleaaGreat.Nr
