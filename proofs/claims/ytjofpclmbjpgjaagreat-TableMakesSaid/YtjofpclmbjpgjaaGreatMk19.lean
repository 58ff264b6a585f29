/- Lemmas. -/
import Derived.Test.YtjofpclmbjpgjaaGreatMk18
set_option maxHeartbeats 16000000
set_option maxRecDepth 100000
namespace Go.Proofs.YtjofpclmbjpgjaaGreat
open Lib (hid)
open Go.RowKit
def dN (T:List Int):List Value:=T.map λx=>.int .i64 x
theorem yB (T:List Int):(dN T).length=T.length:=AsH ..
abbrev AbV (T:List Int):Obj:=.cells (dN T).toArray 170
def TabAt (w:World) (b:Nat) (T:List Int):Prop:=w.heap[b]?=some (.cells (dN T).toArray 170 (0,0))
theorem TabAt.lt {w:World} {b:Nat} {T:List Int} (h:TabAt w b T):b<w.heap.size:=(ArL h).1
theorem TabAt.cell {w:World} {b:Nat} {T:List Int} (h:TabAt w b T) {s e:Nat} (hs:Nr.slot (s,e)<T.length):w.cell? ⟨b,s*3+e,none⟩=some (.int .i64 (Nr.at_ T (s,e))):=by
 rw[AsY w b _ _ _ _ h,List.getElem?_toArray]
 unfold dN
 have:=Nr.at_get hs
 rw[List.getElem?_map,show s*3+e=Nr.slot (s,e) by unfold Nr.slot;show s*3+e=3*s+e;omega,this]
 rfl
theorem TabAt.frozen {w:World} {b:Nat} {T:List Int} (h:TabAt w b T) (j:Nat):w.frozen? ⟨b,j,none⟩=false:=AsZ w b j _ _ h
theorem TabAt.kept {w w':World} {b B:Nat} {T:List Int} (h:TabAt w b T) (hlt:b<B) (hb:Below B w w'):TabAt w' b T:=(hb.block _ hlt).trans h
theorem TabAt.set {w:World} {b:Nat} {T:List Int} (h:TabAt w b T) (s e:Nat) (n:Int):TabAt (w.setCell ⟨b,s*3+e,none⟩ (.int .i64 n)) b (Nr.bet T (s,e) n):=by
 have:=AtA w b (s*3+e) _ _ (.int .i64 n) h
 rw[show (dN T).toArray.setIfInBounds (s*3+e) (.int .i64 n)=(dN (Nr.bet T (s,e) n)).toArray by
  unfold dN Nr.bet
  rw[show s*3+e=Nr.slot (s,e) by unfold Nr.slot;show s*3+e=3*s+e;omega,List.map_set]
  simp] at this
 exact this
def Nr.better (T:List Int) (a:Nat × Nat) (n:Int):Bool:=!(decide (0<=Nr.at_ T a) && decide (Nr.at_ T a<=n))
theorem uQ (b n s e:Nat) (T:List Int) (x:Int) (w:World) (h:TabAt w b T) (hl:T.length=3*n) (hs:s<n) (he:e<3) :
 Calls Tryz.prog 151 #[.slice (some ⟨b,0,none⟩) n n,.int .i64 s,.int .i64 e,.int .i64 x] w λr w'=>r=.returned (.bool (Nr.better T (s,e) x))/\w'=if Nr.better T (s,e) x=true then w.setCell ⟨b,s*3+e,none⟩ (.int .i64 x) else w:=by
 --[
 have hsl:Nr.slot (s,e)<T.length:=by rw[hl];exact Nr.slot_lt hs he
 have c0:=h.cell hsl
 have f0:=h.frozen (s*3+e)
 unfold Nr.better
 generalize Nr.at_ T (s,e)=y at c0
 have i0:(0:Int)<=(s:Int):=ArT s
 have i1:(s:Int)<(n:Int):=by omega
 have i2:(0:Int)<=(e:Int):=ArT e
 have i3:(e:Int)<3:=by omega
 clear h hsl hl
 cases h1:decide (0<=y) with
 | false =>
   rw[Bool.false_and,Bool.not_false,ArZ rfl]
   go_enter Tryz.func151,Tryz.ntmps151
   go_wp2
   go_ret
   exact⟨rfl,rfl⟩
 | true =>
   rw[Bool.true_and]
   cases h2:decide (y<=x) with
   | false =>
     rw[Bool.not_false,ArZ rfl]
     go_enter Tryz.func151,Tryz.ntmps151
     go_wp2
     go_ret
     exact⟨rfl,rfl⟩
   | true =>
     rw[Bool.not_true,ArY (by decide)]
     go_enter Tryz.func151,Tryz.ntmps151
     go_wp2
     go_ret
     exact⟨rfl,rfl⟩
 --]
structure Nr.Went (p:Pl.Plan) (ap:Int) (st:Nat × Nat) (T T':List Int) (more:Bool) (Q:Prop):Prop where
 sound:Nr.Sound p ap st T'
 le:Nr.weight ap T'<=Nr.weight ap T
 less:more=true->Nr.weight ap T'<Nr.weight ap T
 same:more=false->T'=T/\Q
theorem Nr.Went.next {p:Pl.Plan} {ap:Int} {st:Nat × Nat} {T T':List Int} {more:Bool} {Q R:Prop} (h:Nr.Went p ap st T T' more Q) (hq:more=false->T'=T->Q->R):Nr.Went p ap st T T' more R :=
 ⟨h.sound,h.le,h.less,λe=>⟨(h.same e).1,hq e (h.same e).1 (h.same e).2⟩⟩
structure NrW (W0 w w':World) (b:Nat) (T':List Int):Prop where
 tab:TabAt w' b T'
 below:Below W0.heap.size W0 w'
 size:w.heap.size<=w'.heap.size
theorem NrW.behind {W0 w w1 w2:World} {b:Nat} {T:List Int} (h:NrW W0 w w1 b T) (hb:Below w1.heap.size w1 w2):NrW W0 w w2 b T :=
 ⟨h.tab.kept h.tab.lt hb,h.below.trans (hb.mono h.below.size),ArS h.size hb.size⟩
theorem NrW.set {W0 w w1:World} {b:Nat} {T:List Int} (h:NrW W0 w w1 b T) (hb:W0.heap.size<=b) (s e:Nat) (n:Int):NrW W0 w (w1.setCell ⟨b,s*3+e,none⟩ (.int .i64 n)) b (Nr.bet T (s,e) n) :=
 ⟨h.tab.set s e n,h.below.setCell (p:=⟨b,s*3+e,none⟩) hb _,by rw[World.size_setCell];exact h.size⟩
def Nr.Seen (p:Pl.Plan) (ap:Int) (T:List Int) (a:Nat × Nat) (n:Int) (k j:Nat):Prop:=Nr.ClosedTo p ap T a n k/\((∃ x∈(Wk.outs p a.1 k).take j,x.t=(a.2:Int))->∀ b:Nat × Nat,Wk.next p a.1 k=((b.1:Int),(b.2:Int),true)->n<ap->0<=Nr.at_ T b/\Nr.at_ T b<=n)
theorem Nr.Seen.start {p:Pl.Plan} {ap:Int} {T:List Int} {a:Nat × Nat} {n:Int} {k:Nat} (h:Nr.ClosedTo p ap T a n k):Nr.Seen p ap T a n k 0:=⟨h,λ⟨_,hx,_⟩=>by rw[List.take_zero] at hx;cases hx⟩
theorem Nr.Seen.end_ {p:Pl.Plan} {ap:Int} {T:List Int} {a:Nat × Nat} {n:Int} {k:Nat} (h:Nr.Seen p ap T a n k (Wk.outs p a.1 k).length):Nr.ClosedTo p ap T a n (k+1):=by
 intro f hf hx b hn hlt
 by_cases e:f=k
 ·subst e
  rw[Nr.Seen,List.take_length] at h
  exact h.2 hx b hn hlt
 exact h.1 f (by omega) hx b hn hlt
theorem Nr.Seen.skip {p:Pl.Plan} {ap:Int} {T:List Int} {a:Nat × Nat} {n:Int} {k j:Nat} {x:Wk.Stp} (h:Nr.Seen p ap T a n k j) (hx:(Wk.outs p a.1 k)[j]?=some x) (hno:x.t=(a.2:Int)->∀ b:Nat × Nat,Wk.next p a.1 k=((b.1:Int),(b.2:Int),true)->n<ap->0<=Nr.at_ T b/\Nr.at_ T b<=n):Nr.Seen p ap T a n k (j+1):=by
 refine⟨h.1,λ⟨y,hy,ht⟩ b hn hlt=>?_⟩
 rw[List.take_add_one,hx] at hy
 rcases ArW.1 hy with hy|hy
 ·exact h.2 ⟨y,hy,ht⟩ b hn hlt
 obtain rfl:y=x:=by simpa using hy
 exact hno ht b hn hlt
theorem Nr.better_yes {T:List Int} {a:Nat × Nat} {n:Int} (h:Nr.better T a n=true):Nr.at_ T a<0∨n<Nr.at_ T a:=by
 unfold Nr.better at h
 simp only[Bool.not_eq_true',Bool.and_eq_false_iff,decide_eq_false_iff_not] at h
 omega
theorem Nr.better_no {Q F:Nat} {T:List Int} {b:Nat × Nat} {n:Int} {v:Int × Int × Bool} (h1:v=((Q:Int),(F:Int),true)) (h2:v=((b.1:Int),(b.2:Int),true)) (h:Nr.better T (Q,F) n=false):0<=Nr.at_ T b/\Nr.at_ T b<=n:=by
 rw[h1] at h2
 simp only[Prod.mk.injEq] at h2
 obtain⟨e1,e2,-⟩:=h2
 have e3:(Q,F)=b:=by
  obtain⟨b1,b2⟩:=b
  simp only at e1 e2
  rw[show Q=b1 by omega,show F=b2 by omega]
 rw[<-e3]
 unfold Nr.better at h
 simp only[Bool.not_eq_false',AsF,decide_eq_true_eq] at h
 exact h
theorem yC {p:Pl.Plan} (hf:Pl.Fit p) {s k:Nat} {q f:Int} (h:Wk.next p s k=(q,f,true)):0<=q/\0<=f:=by
 unfold Wk.next at h
 split at h
 ·exact absurd (congrArg (λx=>x.2.2) h) (by simp)
 rename_i x hx
 split at h
 ·exact absurd (congrArg (λx=>x.2.2) h) (by simp)
 rename_i hg
 obtain⟨i,e,y,h1,h2,h3,h4,h5⟩:=Lp.endOf_some hx
 simp only[Prod.mk.injEq] at h
 obtain⟨e1,e2,-⟩:=h
 have:=(hf.ends i y h4 e h3).2.2 (by rw[<-h5];omega)
 rw[<-h5] at this
 omega
section
variable (p : Pl.Plan) (hf : Pl.Fit p) (hm : Lp.Meas p) (hap : 0 < p.ap /\ p.ap <= 1125899906842624)
include hf hm hap
theorem AbW (A:Option Addr) (c:Nat) (A':Option Addr) (c':Nat) (st:Nat × Nat) (hst:st.2<3) (W0:World) (hI:PlanIn W0 p A A') (b s e:Nat) (T:List Int) (w:World) (hw:NrW W0 w w b T) (hb:W0.heap.size<=b) (hT:Nr.Sound p p.ap st T) (hs:s<p.secs.length) (he:e<3) (h0:0<=Nr.at_ T (s,e)) (hbw:b<w.heap.size) :
 Calls Tryz.prog 123 #[.slice (some ⟨b,0,none⟩) p.secs.length p.secs.length,aR p A c A' c',.int .i64 s,.int .i64 e] w λr w'=>∃ (more:Bool) (T':List Int),r=.returned (.bool more)/\NrW W0 w w' b T'/\Nr.Went p p.ap st T T' more (Nr.ClosedAt p p.ap T (s,e)):=by
 --[
 have XA:=(AtB w).alloc (ArR _) (aD p A c A' c')
 have RP:=hid (AsW w (aD p A c A' c'))
 have HW:=hid (hw.behind XA)
 have HI:=hid hI
 have HT:=hid hT
 have hlen:=hT.len
 have hsl:Nr.slot (s,e)<T.length:=by rw[hlen];exact Nr.slot_lt hs he
 have c0:=HW.out.tab.cell hsl
 obtain⟨-,hlt⟩:=Nr.sound_bd hT (a:=(s,e)) hs he
 obtain⟨b1,o1,rfl,g1,on⟩:=bQ (hI.below HW.out.below).1 (ArN hs)
 have onl:=(bE on).2.2.1
 have hla:(p.secs[s]).len=Nr.lenAt p s:=by unfold Nr.lenAt;rw[ArN hs];rfl
 rw[hla] at onl
 have hlb:=Nr.lenAt_bd hm s
 have HR:=hid (show Nr.Reach p st (s,e) (Nr.at_ T (s,e)) from(hT.least (s,e) hs he).elim (λh=>by omega) λh=>h.2.2)
 have i0:(0:Int)<=(s:Int):=ArT s
 have i1:(s:Int)<(p.secs.length:Int):=by omega
 have i2:(0:Int)<=(e:Int):=ArT e
 have i3:(e:Int)<3:=by omega
 obtain⟨n,hn⟩:∃ n,Nr.at_ T (s,e)+Nr.lenAt p s=n:=⟨_,rfl⟩
 have hn0:0<=n:=by omega
 have q:IntKind.i64.wrap (Nr.at_ T (s,e)+Nr.lenAt p s)=n:=by rw[IntWalk.i64_in _ (by omega)];exact hn
 have HE:=hid hn
 have HS:=hid (λ(bb:Nat × Nat) (hed:Nr.Edge p (s,e) bb)=>(show Nr.Reach p st bb n from by rw[<-hn];exact Nr.Reach.step HR.out hed))
 generalize Nr.at_ T (s,e)=a0 at c0 q
 generalize Nr.lenAt p s=l0 at onl q
 clear hn hsl on hla hI hT hw XA hlb hlt h0
 go_enter Tryz.func123,Tryz.ntmps123
 go_upto_region 2 with fail
 generalize w.alloc (aD p (some ⟨b1,o1,none⟩) c A' c')=w1 at RP HW c0 onl g1 ⊢
 have hgb:b<w.heap.size:=hbw
 generalize hgq:w.heap.size=gq at RP hgb ⊢
 have HGQ:=hid hgq
 clear hgq
 have gp:=(ArL RP.out).1
 obtain⟨⟨p0,p1,p2,p3,p4,p5⟩,-,-⟩:=row6 RP.out
 go_quiet (fail)
 go_wp2_with fail
 have HW2:=hid (show NrW W0 w (w1.drewN nq) b T from⟨HW.out.tab,aH HW.out.below _,HW.out.size⟩)
 have RP2:=hid (show (w1.drewN nq).heap[gq]?=some (aD p (some ⟨b1,o1,none⟩) c A' c') from RP.out)
 clear p0 p1 p2 p3 p4 p5 HW RP c0 onl g1 gp
 generalize w1.drewN nq=w2 at HW2 RP2 ⊢
 go_loopw [9,11,12,13,14,15,16] (λv9 v11 _ _ _ _ _ w'=>∃ (k:Nat) (more:Bool) (T':List Int),k<=3/\v9=.bool more/\v11=.int .i64 k/\NrW W0 w w' b T'/\w'.heap[gq]?=some (aD p (some ⟨b1,o1,none⟩) c A' c')/\Nr.Went p p.ap st T T' more (Nr.ClosedTo p p.ap T (s,e) n k)) (λ_ v11 _ _ _ _ _ _=>3-(intOf v11).toNat)
 case atStart=>exact⟨0,false,T,AsD _,rfl,rfl,HW2.out,RP2.out,⟨HT.out,ArR _,(λh=>by cases h),λ_=>⟨rfl,λf hf=>absurd hf (Nat.not_lt_zero f)⟩⟩⟩
 case round =>
  obtain⟨k,more,T1,hk,rfl,rfl,hw3,hp3,hwent⟩:=hrel
  have HW3:=hid hw3
  have RP3:=hid hp3
  have WE:=hid hwent
  clear hw3 hp3 hwent
  by_cases hlt:k<3
  ·have d1 : decide ((k:Int)<3)=true:=aC (by omega)
   obtain⟨⟨p0,p1,p2,p3,p4,p5⟩,-,gp⟩:=row6 RP3.out
   have CO:=hid (jE p (some ⟨b1,o1,none⟩) c A' c' s k wr (HI.out.below HW3.out.below))
   go_wp2_with fail
   refine CO.out.mono ?_;rintro e1 w4 ⟨B,d,rfl,ho,hb4⟩
   have HW4:=hid (HW3.out.behind hb4)
   have RP4:=hid ((hb4.block _ gp).trans RP3.out)
   have HO:=hid ho
   have hbs:b<wr.heap.size:=HW3.out.tab.lt
   generalize hbase:wr.heap.size=base at HO hbs
   clear p0 p1 p2 p3 p4 p5 gp CO ho hb4 hbase
   go_wp2_with fail
   go_loopw [9,13,14,15,16] (λv9 v13 _ _ _ w'=>∃ (j:Nat) (more:Bool) (T':List Int),j<=(Wk.outs p s k).length/\v9=.bool more/\v13=.int .i64 j/\NrW W0 w w' b T'/\w'.heap[gq]?=some (aD p (some ⟨b1,o1,none⟩) c A' c')/\OwnS base w' B d (Wk.outs p s k)/\Nr.Went p p.ap st T T' more (Nr.Seen p p.ap T (s,e) n k j)) (λ_ v13 _ _ _ _=>(Wk.outs p s k).length-(intOf v13).toNat)
   case atStart=>exact⟨0,more,T1,AsD _,rfl,rfl,HW4.out,RP4.out,HO.out,WE.out.next λ_ _ h=>Nr.Seen.start h⟩
   case round =>
    obtain⟨j,more2,T2,hj,rfl,rfl,hw5,hp5,ho5,hwent5⟩:=hrel
    have HW5:=hid hw5
    have RP5:=hid hp5
    have HO5:=hid ho5
    have WE5:=hid hwent5
    clear hw5 hp5 ho5 hwent5
    by_cases hjl:j<(Wk.outs p s k).length
    ·have hy := ArN hjl
     obtain⟨bb,oo,rfl,gbb,on⟩:=HO5.out.row.at hjl
     generalize (Wk.outs p s k)[j]=y at hy on
     obtain⟨-,-,r2⟩:=bL on
     rw[show j*aE.m=j*3 from rfl] at r2
     have HY:=hid hy
     have d2:decide ((j:Int)<((Wk.outs p s k).length:Int))=true:=aC (by omega)
     have j0:(0:Int)<=(j:Int):=ArT j
     have j1:(j:Int)<((Wk.outs p s k).length:Int):=by omega
     obtain⟨⟨p0,p1,p2,p3,p4,p5⟩,-,gp⟩:=row6 RP5.out
     have CN:=hid (dB p (some ⟨b1,o1,none⟩) c A' c' s k wr (HI.out.below HW5.out.below))
     have HX:=hid (rfl:Wk.next p s k=Wk.next p s k)
     generalize hnx:Wk.next p s k=nx at CN HX
     have HNX:=hid hnx
     obtain⟨qi,fi,ok⟩:=nx
     have HJ:=hid hjl
     have ho2:=Wk.outs_len p s k
     generalize hol:(Wk.outs p s k).length=ol at d2 j1 ho2 ⊢
     have HOL:=hid hol
     clear hy on hnx HX hjl hol
     go_wp2_with fail
     refine CN.out.mono ?_;rintro e2 w6 ⟨rfl,hb6⟩
     have HW6:=hid (HW5.out.behind hb6)
     have RP6:=hid ((hb6.block _ gp).trans RP5.out)
     have HO6:=hid (show OwnS base w6 (some ⟨bb,oo,none⟩) d (Wk.outs p s k) from aA HO5.out hb6)
     have r2':=(hb6.cell (p:=⟨bb,oo+j*3+2,none⟩) gbb).trans r2
     clear p0 p1 p2 p3 p4 p5 gp r2 hb6 CN gbb
     obtain⟨⟨-,p1,-,-,-,-⟩,-,gp⟩:=row6 RP6.out
     by_cases ht:y.t=(e:Int)
     ·have E1:(y.t == (e:Int))=true:=by rw[beq_iff_eq];exact ht
      cases ok with
      | false =>
        go_wp2
        go_roundw
        case rel=>exact⟨j+1,more2,T2,by have:=HJ.out;omega,rfl,by go_num,HW6.out,RP6.out,HO6.out,WE5.out.next λ_ _ h=>Nr.Seen.skip h HY.out (λ_ b hn _=>by rw[HNX.out] at hn;exact absurd (congrArg (λx=>x.2.2) hn) (by simp))⟩
        case measure=>simp[intOf];have:=HJ.out;have:=HOL.out;omega
      | true =>
        by_cases hna:n<p.ap
        ·have D3:decide (n<p.ap)=true:=aC hna
         obtain⟨Q,F,rfl,rfl,hQ,hF⟩:∃ Q F:Nat,qi=(Q:Int)/\fi=(F:Int)/\Q<p.secs.length/\F<3:=by
          have hnn:=HNX.out
          obtain⟨h1,h2⟩:=yC hf hnn
          refine⟨qi.toNat,fi.toNat,by omega,by omega,?_⟩
          have:=Nr.edge_in hf (a:=(s,e)) (b:=(qi.toNat,fi.toNat)) ⟨k,hlt,⟨y,ArX HY.out,ht⟩,by rw[show ((qi.toNat:Nat):Int)=qi by omega,show ((fi.toNat:Nat):Int)=fi by omega];exact hnn⟩
          exact this
         have hre:=HS.out (Q,F) ⟨k,hlt,⟨y,ArX HY.out,ht⟩,HNX.out⟩
         have CB:=hid (uQ b p.secs.length Q F T2 n w6 HW6.out.tab (WE5.out.sound.len) hQ hF)
         cases hbt:Nr.better T2 (Q,F) n with
         | false =>
           rw[hbt] at CB
           rw[ArY (by decide)] at CB
           have HBT:=hid hbt
           clear hbt hre
           go_wp2_with fail
           refine CB.out.mono ?_;rintro e3 w7 ⟨rfl,rfl⟩
           clear CB
           go_wp2
           go_roundw
           case rel=>exact⟨j+1,more2,T2,by have:=HJ.out;omega,rfl,by go_num,HW6.out,RP6.out,HO6.out,WE5.out.next λ_ hTT h=>Nr.Seen.skip h HY.out (λ_ b hn _=>Nr.better_no HNX.out hn (by rw[<-hTT];exact HBT.out))⟩
           case measure=>simp[intOf];have:=HJ.out;have:=HOL.out;omega
         | true =>
           rw[hbt] at CB
           rw[ArZ rfl] at CB
           obtain⟨hsn,hwt⟩:=WE5.out.sound.bet hst (b:=(Q,F)) hQ hF hn0 hna hre (Nr.better_yes hbt)
           have HSN:=hid hsn
           have HWT:=hid hwt
           have HW7:=hid (HW6.out.set hb Q F n)
           have RP7:=hid ((AsX w6 ⟨b,Q*3+F,none⟩ gq (.int .i64 n) (by show gq≠b;omega)).trans RP6.out)
           have HO7:=hid (show OwnS base (w6.setCell ⟨b,Q*3+F,none⟩ (.int .i64 n)) (some ⟨bb,oo,none⟩) d (Wk.outs p s k) from ownsRow_setCell_below HO6.out (a:=⟨b,Q*3+F,none⟩) hbs _)
           have HLE:=hid WE5.out.le
           clear hbt hre hsn hwt
           go_wp2_with fail
           refine CB.out.mono ?_;rintro e3 w7 ⟨rfl,rfl⟩
           clear CB
           go_wp2
           go_roundw
           case rel=>exact⟨j+1,true,Nr.bet T2 (Q,F) n,by have:=HJ.out;omega,rfl,by go_num,HW7.out,RP7.out,HO7.out,⟨HSN.out,ArS (Nat.le_of_lt HWT.out) HLE.out,(λ_=>AsE HWT.out HLE.out),λh=>by cases h⟩⟩
           case measure=>simp[intOf];have:=HJ.out;have:=HOL.out;omega
        have D3:decide (n<p.ap)=false:=aB hna
        go_wp2
        go_roundw
        case rel=>exact⟨j+1,more2,T2,by have:=HJ.out;omega,rfl,by go_num,HW6.out,RP6.out,HO6.out,WE5.out.next λ_ _ h=>Nr.Seen.skip h HY.out (λ_ _ _ h=>absurd h (by omega))⟩
        case measure=>simp[intOf];have:=HJ.out;have:=HOL.out;omega
     have E1:(y.t == (e:Int))=false:=by rw[ArU];exact ht
     cases ok
     all_goals go_wp2_with fail
     all_goals go_roundw
     all_goals first
      | exact⟨j+1,more2,T2,by have:=HJ.out;omega,rfl,by go_num,HW6.out,RP6.out,HO6.out,WE5.out.next λ_ _ h=>Nr.Seen.skip h HY.out (λh=>absurd h ht)⟩
      | (simp[intOf];have:=HJ.out;have:=HOL.out;omega)
    obtain rfl:j=(Wk.outs p s k).length:=by omega
    have d2:decide (((Wk.outs p s k).length:Int)<((Wk.outs p s k).length:Int))=false:=aB (by omega)
    generalize hol:(Wk.outs p s k).length=ol at d2
    have HOL:=hid hol
    go_wp2
    go_roundw
    case rel=>exact⟨k+1,more2,T2,by omega,rfl,by go_num,HW5.out,RP5.out,WE5.out.next λ_ _ h=>Nr.Seen.end_ h⟩
    case measure=>simp[intOf];omega
  obtain rfl:k=3:=by omega
  have d1:decide (((3:Nat):Int)<3)=false:=by decide
  go_wp2
  go_ret
  exact⟨more,T1,rfl,HW3.out,WE.out.next λ_ _ h=>Nr.ClosedTo.all (by rw[HE.out];exact h)⟩
 --]
end
end Go.Proofs.YtjofpclmbjpgjaaGreat
