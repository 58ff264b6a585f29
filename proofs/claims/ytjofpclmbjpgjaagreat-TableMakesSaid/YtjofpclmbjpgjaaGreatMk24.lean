/- Lemmas. -/
import Derived.Test.YtjofpclmbjpgjaaGreatMk23
namespace Go.Proofs.YtjofpclmbjpgjaaGreat
open Go.RowKit
structure SetM where
 A:Option Addr
 c:Nat
 L:List Nat
def fW:Lies SetM:=⟨1,by decide,λm=>[.slice m.A m.L.length m.c],λ_=>rfl,λy u hu=>by
 simp at hu
 subst hu;rfl⟩
theorem AqA {w:World} {b o:Nat} {m:SetM} (h:fW.On w b o m):w.cell? ⟨b,o,none⟩=some (.slice m.A m.L.length m.c):=h 0 _ rfl
theorem AeN:(Tryz.prog.info? 80).map (λi=>(i.zero,i.size,i.bytes))=some (some (.slice none 0 0),1,24):=by kernel_rfl
def SetsIn (w:World) (A:Option Addr) (R:List (List Nat)):Prop:=∃ M:List SetM,M.map SetM.L=R/\fW.Row w A M/\∀ m∈M,LWd.Row w m.A m.L
theorem SetsIn.below {w w':World} {A:Option Addr} {R:List (List Nat)} (h:SetsIn w A R) (hb:Below w.heap.size w w'):SetsIn w' A R:=by
 obtain⟨M,h1,h2,h3⟩:=h
 exact⟨M,h1,h2.below rfl hb,λm hm=>(h3 m hm).below rfl hb⟩
theorem SetsIn.at {w:World} {A:Option Addr} {R:List (List Nat)} (h:SetsIn w A R) {k:Nat} {y:List Nat} (hk:R[k]?=some y):∃ (b o:Nat) (B:Option Addr) (c:Nat),A=some ⟨b,o,none⟩/\b<w.heap.size/\w.cell? ⟨b,o+k,none⟩=some (.slice B y.length c)/\LWd.Row w B y:=by
 obtain⟨M,rfl,h2,h3⟩:=h
 rw[List.getElem?_map] at hk
 cases hm:M[k]? with
 | none=>rw[hm] at hk;cases hk
 | some m =>
   rw[hm] at hk
   obtain⟨hlt,hmk⟩:=ArM hm
   obtain⟨b,o,hA,hb,on⟩:=h2.at hlt
   rw[hmk] at on
   obtain rfl:m.L=y:=AsO hk
   have c0:=AqA on
   rw[show k*fW.m=k from Nat.mul_one k] at c0
   exact⟨b,o,m.A,m.c,hA,hb,c0,h3 m (ArX hm)⟩
def SetsNew (N:Nat) (w:World) (A:Option Addr) (R:List (List Nat)):Prop:=∃ M:List SetM,M.map SetM.L=R/\(fW.Row w A M/\NewR N A M)/\∀ m∈M,LWd.Row w m.A m.L/\NewR N m.A m.L
theorem SetsNew.in_ {N:Nat} {w:World} {A:Option Addr} {R:List (List Nat)} (h:SetsNew N w A R):SetsIn w A R:=by
 obtain⟨M,h1,h2,h3⟩:=h
 exact⟨M,h1,h2.1,λm hm=>(h3 m hm).1⟩
theorem SetsNew.below {N:Nat} {w w':World} {A:Option Addr} {R:List (List Nat)} (h:SetsNew N w A R) (hb:Below w.heap.size w w'):SetsNew N w' A R:=by
 obtain⟨M,h1,h2,h3⟩:=h
 exact⟨M,h1,⟨h2.1.below rfl hb,h2.2⟩,λm hm=>⟨(h3 m hm).1.below rfl hb,(h3 m hm).2⟩⟩
theorem SetsNew.base {N N':Nat} {w:World} {A:Option Addr} {R:List (List Nat)} (h:SetsNew N w A R) (hn:N'<=N):SetsNew N' w A R:=by
 obtain⟨M,h1,h2,h3⟩:=h
 exact⟨M,h1,⟨h2.1,h2.2.base hn⟩,λm hm=>⟨(h3 m hm).1,(h3 m hm).2.base hn⟩⟩
theorem SetsNew.nil (N:Nat) (w:World):SetsNew N w none []:=⟨[],rfl,⟨.inl rfl,λh=>absurd rfl h⟩,λ_ h=>by cases h⟩
def SetsAp (N:Nat) (w:World) (k:Option Nat) (A:Option Addr) (R:List (List Nat)):Prop:=∃ M:List SetM,M.map SetM.L=R/\(ApartR fW w k A M/\NewR N A M)/\∀ m∈M,ApartR LWd w k m.A m.L/\NewR N m.A m.L
theorem SetsNew.apart {N:Nat} {w:World} {A:Option Addr} {R:List (List Nat)} (h:SetsNew N w A R) {k:Option Nat} (hk:∀ j,k=some j->j<N):SetsAp N w k A R:=by
 obtain⟨M,h1,h2,h3⟩:=h
 exact⟨M,h1,⟨ApartR.new h2.1 h2.2 hk,h2.2⟩,λm hm=>⟨ApartR.new (h3 m hm).1 (h3 m hm).2 hk,(h3 m hm).2⟩⟩
theorem pK {α:Type} {E:Lies α} {w:World} {A:Option Addr} {L:List α} (h:E.Row w A L) {k:Nat} (hk:w.heap.size<=k):ApartR E w (some k) A L:=⟨h,λhz a ha=>by
 rcases h with h|⟨b,o,h1,h2,-⟩
 ·exact absurd h hz
 rw[h1] at ha
 cases ha
 refine⟨λe=>?_,h2⟩
 have:=AsO e
 simp only at this
 omega⟩
theorem SetsNew.next {N:Nat} {w:World} {A:Option Addr} {R:List (List Nat)} (h:SetsNew N w A R) {k:Nat} (hk:w.heap.size<=k):SetsAp N w (some k) A R:=by
 obtain⟨M,h1,h2,h3⟩:=h
 exact⟨M,h1,⟨pK h2.1 hk,h2.2⟩,λm hm=>⟨pK (h3 m hm).1 hk,(h3 m hm).2⟩⟩
theorem SetsAp.base {N N':Nat} {k:Option Nat} {w:World} {A:Option Addr} {R:List (List Nat)} (h:SetsAp N w k A R) (hn:N'<=N):SetsAp N' w k A R:=by
 obtain⟨M,h1,h2,h3⟩:=h
 exact⟨M,h1,⟨h2.1,h2.2.base hn⟩,λm hm=>⟨(h3 m hm).1,(h3 m hm).2.base hn⟩⟩
theorem SetsAp.below {N:Nat} {k:Option Nat} {w w':World} {A:Option Addr} {R:List (List Nat)} (h:SetsAp N w k A R) (hb:Below w.heap.size w w'):SetsAp N w' k A R:=by
 obtain⟨M,h1,h2,h3⟩:=h
 exact⟨M,h1,⟨h2.1.below hb,h2.2⟩,λm hm=>⟨(h3 m hm).1.below hb,(h3 m hm).2⟩⟩
theorem ApartR.off {α:Type} {E:Lies α} {w w':World} {g:Nat} {A:Option Addr} {L:List α} (hr:ApartR E w (some g) A L) (hs:w.heap.size<=w'.heap.size) (hk:∀ b,b<w.heap.size->b≠g->w'.heap[b]?=w.heap[b]?):ApartR E w' (some g) A L :=
 ⟨bC hr.1 hs λhL x hx=>hk _ (hr.2 hL x hx).2 λe=>(hr.2 hL x hx).1 (congrArg some e.symm),λhL x hx=>⟨(hr.2 hL x hx).1,AsE (hr.2 hL x hx).2 hs⟩⟩
theorem SetsAp.off {N g:Nat} {w w':World} {A:Option Addr} {R:List (List Nat)} (h:SetsAp N w (some g) A R) (hs:w.heap.size<=w'.heap.size) (hk:∀ b,b<w.heap.size->b≠g->w'.heap[b]?=w.heap[b]?):SetsAp N w' (some g) A R:=by
 obtain⟨M,h1,h2,h3⟩:=h
 exact⟨M,h1,⟨h2.1.off hs hk,h2.2⟩,λm hm=>⟨(h3 m hm).1.off hs hk,(h3 m hm).2⟩⟩
theorem SetsAp.new {N:Nat} {k:Option Nat} {w:World} {A:Option Addr} {R:List (List Nat)} (h:SetsAp N w k A R):SetsNew N w A R:=by
 obtain⟨M,h1,h2,h3⟩:=h
 exact⟨M,h1,⟨h2.1.1,h2.2⟩,λm hm=>⟨(h3 m hm).1.1,(h3 m hm).2⟩⟩
def SetsMade (R:List (List Nat)) (w:World) (e:Ending) (w':World):Prop:=∃ A c,e=.returned (.slice A R.length c)/\SetsNew w.heap.size w' A R/\Below w.heap.size w w'
def AeO (R:List (List Nat)) (w:World) (e:Ending) (w':World):Prop:=∃ A c,e=.returned (.slice A R.length c)/\SetsIn w' A R/\Below w.heap.size w w'
theorem SetsMade.yes {R:List (List Nat)} {w:World} {e:Ending} {w':World} (h:SetsMade R w e w'):AeO R w e w':=by
 obtain⟨A,c,h1,h2,h3⟩:=h
 exact⟨A,c,h1,h2.in_,h3⟩
def eR (M:List SetM) (n:Nat):List Value:=M.map (λm=>Value.slice m.A m.L.length m.c)++List.replicate n (.slice none 0 0)
theorem yH (M:List SetM) (n:Nat) (m:SetM):(eR M (n+1)).set M.length (.slice m.A m.L.length m.c)=eR (M++[m]) n:=by
 unfold eR
 rw[List.set_append_right _ _ (by rw[AsH];exact ArR _),AsH,Nat.sub_self,List.replicate_succ,ArP,List.map_append,List.append_assoc]
 rfl
structure SetsUp (w:World) (g:Nat) (R:List (List Nat)) (n:Nat):Prop where
 ex:∃ M:List SetM,M.map SetM.L=R/\w.heap[g]?=some (.cells (eR M n).toArray 80)/\∀ m∈M,ApartR LWd w (some g) m.A m.L/\NewR g m.A m.L
theorem SetsUp.below {w w':World} {g:Nat} {R:List (List Nat)} {n:Nat} (h:SetsUp w g R n) (hb:Below w.heap.size w w'):SetsUp w' g R n:=by
 obtain⟨M,h1,h2,h3⟩:=h
 exact⟨M,h1,(hb.block _ (ArL h2).1).trans h2,λm hm=>⟨(h3 m hm).1.below hb,(h3 m hm).2⟩⟩
theorem SetsUp.lt {w:World} {g:Nat} {R:List (List Nat)} {n:Nat} (h:SetsUp w g R n):g<w.heap.size:=by
 obtain⟨M,-,h2,-⟩:=h
 exact(ArL h2).1
theorem AbY (M:List SetM) (n:Nat):(eR M (n+1)).toArray[M.length]?=some (.slice none 0 0):=by
 unfold eR
 rw[List.getElem?_toArray,List.getElem?_append_right (by rw[AsH];exact ArR _),AsH,Nat.sub_self]
 rfl
theorem SetsUp.cell {w:World} {g:Nat} {R:List (List Nat)} {n:Nat} (h:SetsUp w g R (n+1)):w.cell? ⟨g,R.length,none⟩=some (.slice none 0 0)/\w.frozen? ⟨g,R.length,none⟩=false:=by
 obtain⟨M,rfl,h2,-⟩:=h
 refine⟨(AsY w g _ _ _ _ h2).trans ?_,AsZ w g _ _ _ h2⟩
 rw[AsH]
 exact AbY M n
theorem SetsUp.put {w:World} {g:Nat} {R:List (List Nat)} {n:Nat} (h:SetsUp w g R (n+1)) {A:Option Addr} {c:Nat} {L:List Nat} (hA:ApartR LWd w (some g) A L/\NewR g A L):SetsUp (w.setCell ⟨g,R.length,none⟩ (.slice A L.length c)) g (R++[L]) n:=by
 obtain⟨M,rfl,h2,h3⟩:=h
 have keep:∀ {B:Option Addr} {K:List Nat},ApartR LWd w (some g) B K->ApartR LWd (w.setCell ⟨g,(M.map SetM.L).length,none⟩ (.slice A L.length c)) (some g) B K:=λ{B K} h=>by
  have hs:(w.setCell ⟨g,(M.map SetM.L).length,none⟩ (.slice A L.length c)).heap.size=w.heap.size:=by simp
  refine⟨bC h.1 (by rw[hs];exact ArR _) λhz a ha=>AsX _ _ _ _ λe=>(h.2 hz a ha).1 (congrArg some e.symm),λhz a ha=>⟨(h.2 hz a ha).1,by rw[hs];exact(h.2 hz a ha).2⟩⟩
 refine⟨M++[⟨A,c,L⟩],by rw[List.map_append];rfl,?_,λm hm=>?_⟩
 ·rw[AtA w g _ _ _ _ h2,AsH]
  have e:=yH M n ⟨A,c,L⟩
  simp only at e
  rw[<-e]
  simp
 rcases ArW.1 hm with hm|hm
 ·exact⟨keep (h3 m hm).1,(h3 m hm).2⟩
 rw[AsS.1 hm]
 exact⟨keep hA.1,hA.2⟩
theorem SetsUp.made (w:World) (n:Nat):SetsUp (w.alloc (.cells (fW.all (List.replicate n ⟨none,0,[]⟩)).toArray 80)) w.heap.size [] n:=by
 refine⟨[],rfl,?_,λm hm=>(by cases hm)⟩
 rw[AsW]
 congr 3
 unfold eR
 rw[List.map_nil,List.nil_append]
 induction n with
 | zero=>rfl
 | succ n ih=>rw[List.replicate_succ,List.replicate_succ,<-ih];rfl
theorem SetsUp.done {w:World} {g:Nat} {R:List (List Nat)} (h:SetsUp w g R 0):SetsNew g w (some ⟨g,0,none⟩) R:=by
 obtain⟨M,rfl,h2,h3⟩:=h
 refine⟨M,rfl,⟨.inr ⟨g,0,rfl,(ArL h2).1,λk y hy j v hv=>?_⟩,λ_ a ha=>(by cases ha;exact ArR _)⟩,λm hm=>⟨(h3 m hm).1.1,(h3 m hm).2⟩⟩
 have hj:j=0/\v=.slice y.A y.L.length y.c:=by
  cases j with
  | zero=>exact⟨rfl,(AsO hv).symm⟩
  | succ j=>cases hv
 obtain⟨rfl,rfl⟩:=hj
 rw[show 0+k*fW.m+0=k from by rw[show fW.m=1 from rfl];omega]
 refine(AsY w g _ _ _ _ h2).trans ?_
 unfold eR
 rw[List.replicate_zero,AsM,List.getElem?_toArray,List.getElem?_map,hy]
 rfl
end Go.Proofs.YtjofpclmbjpgjaaGreat
