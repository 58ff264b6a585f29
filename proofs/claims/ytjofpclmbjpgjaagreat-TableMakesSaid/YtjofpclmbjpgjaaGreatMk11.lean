/- Lemmas. -/
import Derived.Test.YtjofpclmbjpgjaaGreatMk10
import Derived.Deep.LoopGhost
import Derived.Shelf.Abstract
set_option maxHeartbeats 8000000
set_option maxRecDepth 100000
namespace Go.Proofs.YtjofpclmbjpgjaaGreat
open Lib (hid)
open Go.RowKit
abbrev uF:Obj:=.cells #[.int .i64 0,.int .i64 0,.int .i64 0] 53
def AoZ (x:Option Pl.En) (w:World) (e:Ending) (w':World):Prop:=e=.returned (.tuple #[ArH (x.getD ⟨0,0,0⟩),.bool x.isSome])/\Below w.heap.size w w'
theorem row3 {w:World} {g:Nat} {a b c:Value} {t:TypeId} (h:w.heap[g]?=some (.cells #[a,b,c] t (0,0))) :
 (w.cell? ⟨g,0,none⟩=some a/\w.cell? ⟨g,1,none⟩=some b/\w.cell? ⟨g,2,none⟩=some c)/\(w.frozen? ⟨g,0,none⟩=false/\w.frozen? ⟨g,1,none⟩=false/\w.frozen? ⟨g,2,none⟩=false)/\g<w.heap.size :=
 ⟨⟨AsY w g 0 _ t _ h,AsY w g 1 _ t _ h,AsY w g 2 _ t _ h⟩,⟨AsZ w g 0 _ t h,AsZ w g 1 _ t h,AsZ w g 2 _ t h⟩,(ArL h).1⟩
theorem xP (p:Pl.Plan) (A:Option Addr) (c:Nat) (A':Option Addr) (c':Nat) (s e:Int) (w:World) (h:PlanIn w p A A') :
 Calls Tryz.prog 115 #[aR p A c A' c',.int .i64 s,.int .i64 e] w (AoZ (Wk.endOf p s e) w):=by
 obtain⟨R0,R1,XX,XS⟩:=bO w (aD p A c A' c') uF
 have X0:=hid XX
 obtain⟨⟨-,-,-,-,p4,-⟩,-,gp⟩:=row6 R0
 obtain⟨⟨z0,z1,z2⟩,⟨f0,f1,f2⟩,gz⟩:=row3 R1
 have HI:=hid (h.below XX)
 clear R0 R1 XX h
 rcases Wk.sec_ways p s with ⟨hs,hn⟩|⟨k,rfl,⟨hk,hn⟩|⟨x,hx,hn⟩⟩
 ·have D:decide (s<0)=true:=aC hs
  have E:Wk.endOf p s e=none:=by unfold Wk.endOf;rw[hn]
  rw[E]
  clear hs hn E
  go_enter Tryz.func115,Tryz.ntmps115
  go_wp2_with fail
  refine bodyPost_ret ?_ rfl ⟨rfl,?_⟩
  ·simp[results,Tryz.results115,go_sem, *]
  (repeat (with_reducible refine Below.setCell ?_ (by exact Nat.le_succ _) _));exact X0.out
 ·have D0:decide ((k:Int)<0)=false:=aB (by omega)
  have D1:decide ((p.secs.length:Int)<=(k:Int))=true:=aC (by omega)
  have E:Wk.endOf p k e=none:=by unfold Wk.endOf;rw[hn]
  rw[E]
  clear hn E
  go_enter Tryz.func115,Tryz.ntmps115
  go_wp2_with fail
  refine bodyPost_ret ?_ rfl ⟨rfl,?_⟩
  ·simp[results,Tryz.results115,go_sem, *]
  (repeat (with_reducible refine Below.setCell ?_ (by exact Nat.le_succ _) _));exact X0.out
 have hlt:k<p.secs.length:=(ArM hx).1
 have D0:decide ((k:Int)<0)=false:=aB (by omega)
 have D1:decide ((p.secs.length:Int)<=(k:Int))=false:=aB (by omega)
 have N1:¬ p.secs.length<=k:=by omega
 have E:Wk.endOf p k e=if Wk.isEnd x e then some (x.get e.toNat) else none:=by unfold Wk.endOf;rw[hn]
 obtain⟨b,o,rfl,hb,on⟩:=bQ HI.out.1 hx
 have HON:=hid on
 obtain⟨-,a1,-⟩:=bE on
 rw[E]
 clear hn E on
 by_cases h0:e<0
 ·have D2:decide (e<0)=true:=aC h0
  have E:Wk.isEnd x e=false:=by unfold Wk.isEnd;rw[decide_eq_false (by omega)];rfl
  rw[E]
  clear h0 hx E a1
  go_enter Tryz.func115,Tryz.ntmps115
  go_wp2_with fail
  refine bodyPost_ret ?_ rfl ⟨rfl,?_⟩
  ·simp[results,Tryz.results115,go_sem, *]
  (repeat (with_reducible refine Below.setCell ?_ (by exact Nat.le_succ _) _));exact X0.out
 have D2:decide (e<0)=false:=aB h0
 by_cases h2:2<e
 ·have D3:decide (2<e)=true:=aC h2
  have E:Wk.isEnd x e=false:=by unfold Wk.isEnd;rw[decide_eq_false (show ¬ e<=2 by omega),Bool.false_and,Bool.and_false]
  rw[E]
  clear h0 h2 hx E a1
  go_enter Tryz.func115,Tryz.ntmps115
  go_wp2_with fail
  refine bodyPost_ret ?_ rfl ⟨rfl,?_⟩
  ·simp[results,Tryz.results115,go_sem, *]
  (repeat (with_reducible refine Below.setCell ?_ (by exact Nat.le_succ _) _));exact X0.out
 have D3:decide (2<e)=false:=aB h2
 obtain⟨j,rfl⟩:∃ j:Nat,e=j:=⟨e.toNat,by omega⟩
 have hj:j<3:=by omega
 by_cases hc:j=2/\x.pt=false
 ·obtain⟨rfl,hpt⟩:=hc
  have E:Wk.isEnd x (2:Nat)=false:=by unfold Wk.isEnd;rw[hpt];rfl
  rw[hpt] at a1
  rw[E]
  clear h0 h2 hx E hpt HON D2 D3 hj
  go_enter Tryz.func115,Tryz.ntmps115
  go_wp2_with fail
  refine bodyPost_ret ?_ rfl ⟨rfl,?_⟩
  ·simp[results,Tryz.results115,go_sem, *]
  (repeat (with_reducible refine Below.setCell ?_ (by exact Nat.le_succ _) _));exact X0.out
 obtain⟨c0,c1,c2⟩:=AnS HON.out hj
 have hz:((j:Int)=2->x.pt=true):=λh=>by
  cases hpt:x.pt
  ·exact absurd ⟨by omega,hpt⟩ hc
  rfl
 have E:Wk.isEnd x (j:Int)=true:=by
  unfold Wk.isEnd
  rw[decide_eq_true (show (0:Int)<=j by omega),decide_eq_true (show (j:Int)<=2 by omega),Bool.true_and,Bool.true_and]
  by_cases hj2:(j:Int)=2
  ·rw[hz hj2,Bool.or_true]
  rw[decide_eq_true hj2,Bool.true_or]
 rw[E,ArZ rfl,AsP]
 generalize x.get j=y at c0 c1 c2
 obtain⟨y0,y1,y2⟩:=y
 simp only at c0 c1 c2
 have j3:(j:Int)<3:=by omega
 by_cases hj2:j=2
 ·subst hj2
  rw[hz rfl] at a1
  clear h0 h2 hx E HON D2 D3 hj hz hc
  go_enter Tryz.func115,Tryz.ntmps115
  go_wp2_with fail
  refine bodyPost_ret ?_ rfl ⟨rfl,?_⟩
  ·simp[results,Tryz.results115,go_sem, *]
  exact(bO w _ _).2.2.1
 have D4:((j:Int) == 2)=false:=by rw[ArU];omega
 clear h0 h2 hx E HON hz hc hj2 a1
 go_enter Tryz.func115,Tryz.ntmps115
 go_wp2_with fail
 refine bodyPost_ret ?_ rfl ⟨rfl,?_⟩
 ·simp[results,Tryz.results115,go_sem, *]
 exact(bO w _ _).2.2.1
def AkY (x:Int × Int × Bool) (w:World) (e:Ending) (w':World):Prop:=e=.returned (.tuple #[.int .i64 x.1,.int .i64 x.2.1,.bool x.2.2])/\Below w.heap.size w w'
def OneIs (v:Value) (w:World) (e:Ending) (w':World):Prop:=e=.returned v/\Below w.heap.size w w'
theorem dB (p:Pl.Plan) (A:Option Addr) (c:Nat) (A':Option Addr) (c':Nat) (s e:Int) (w:World) (h:PlanIn w p A A') :
 Calls Tryz.prog 72 #[aR p A c A' c',.int .i64 s,.int .i64 e] w (AkY (Wk.next p s e) w):=by
 have R0:=AsW w (aD p A c A' c')
 have XX:=(AtB w).alloc (ArR _) (aD p A c A' c')
 have X0:=hid XX
 obtain⟨⟨p0,p1,p2,p3,p4,p5⟩,-,gp⟩:=row6 R0
 have AT:=hid (xP p A c A' c' s e _ (h.below XX))
 have E:Wk.next p s e=match Wk.endOf p s e with|none=>(0,0,false)|some x=>if x.goes<0 then(0,0,false) else(x.goes,x.at_,true):=rfl
 rw[E]
 clear R0 XX h E
 cases hx:Wk.endOf p s e with
 | none =>
   rw[hx] at AT
   clear hx
   go_enter Tryz.func72,Tryz.ntmps72
   go_wp2_with fail
   refine AT.out.mono ?_;rintro e w1 ⟨rfl,hb1⟩
   have B1:=hid ((X0.out.trans (hb1.mono X0.out.size)).alloc (X0.out.trans (hb1.mono X0.out.size)).size uF)
   clear p0 p1 p2 p3 p4 p5 hb1
   go_wp2_with fail
   refine bodyPost_ret ?_ rfl ⟨rfl,B1.out⟩
   simp[results,Tryz.results72,go_sem]
 | some y =>
   rw[hx] at AT
   obtain⟨y0,y1,y2⟩:=y
   by_cases h0:y0<0
   ·have D:decide (y0<0)=true:=aC h0
    simp only
    rw[ArZ h0]
    clear hx h0
    go_enter Tryz.func72,Tryz.ntmps72
    go_wp2_with fail
    refine AT.out.mono ?_;rintro e w1 ⟨rfl,hb1⟩
    have B1:=hid ((X0.out.trans (hb1.mono X0.out.size)).alloc (X0.out.trans (hb1.mono X0.out.size)).size (.cells #[.int .i64 y0,.int .i64 y1,.int .i64 y2] 53))
    clear p0 p1 p2 p3 p4 p5 hb1
    go_wp2_with fail
    refine bodyPost_ret ?_ rfl ⟨rfl,B1.out⟩
    simp[results,Tryz.results72,go_sem]
   have D:decide (y0<0)=false:=aB h0
   simp only
   rw[ArY h0]
   clear hx h0
   go_enter Tryz.func72,Tryz.ntmps72
   go_wp2_with fail
   refine AT.out.mono ?_;rintro e w1 ⟨rfl,hb1⟩
   have B1:=hid ((X0.out.trans (hb1.mono X0.out.size)).alloc (X0.out.trans (hb1.mono X0.out.size)).size (.cells #[.int .i64 y0,.int .i64 y1,.int .i64 y2] 53))
   obtain⟨⟨k0,k1,k2⟩,-,-⟩:=row3 (AsW w1 (.cells #[.int .i64 y0,.int .i64 y1,.int .i64 y2] 53))
   clear p0 p1 p2 p3 p4 p5 hb1
   go_wp2_with fail
   go_quiet (fail)
   go_wp2_with fail
   refine bodyPost_ret ?_ rfl ⟨rfl,aH B1.out _⟩
   simp[results,Tryz.results72,go_sem]
theorem jY (p:Pl.Plan) (A:Option Addr) (c:Nat) (A':Option Addr) (c':Nat) (s e:Int) (w:World) (h:PlanIn w p A A') :
 Calls Tryz.prog 118 #[aR p A c A' c',.int .i64 s,.int .i64 e] w (OneIs (.int .i64 (Wk.signal p s e)) w):=by
 have R0:=AsW w (aD p A c A' c')
 have XX:=(AtB w).alloc (ArR _) (aD p A c A' c')
 have X0:=hid XX
 obtain⟨⟨p0,p1,p2,p3,p4,p5⟩,-,gp⟩:=row6 R0
 have AT:=hid (xP p A c A' c' s e _ (h.below XX))
 have E:Wk.signal p s e=match Wk.endOf p s e with|none=>-1|some x=>x.sig:=rfl
 rw[E]
 clear R0 XX h E
 cases hx:Wk.endOf p s e with
 | none =>
   rw[hx] at AT
   clear hx
   go_enter Tryz.func118,Tryz.ntmps118
   go_wp2_with fail
   refine AT.out.mono ?_;rintro e w1 ⟨rfl,hb1⟩
   have B1:=hid ((X0.out.trans (hb1.mono X0.out.size)).alloc (X0.out.trans (hb1.mono X0.out.size)).size uF)
   clear p0 p1 p2 p3 p4 p5 hb1
   go_wp2
   go_ret
   exact⟨rfl,B1.out⟩
 | some y =>
   rw[hx] at AT
   obtain⟨y0,y1,y2⟩:=y
   clear hx
   go_enter Tryz.func118,Tryz.ntmps118
   go_wp2_with fail
   refine AT.out.mono ?_;rintro e w1 ⟨rfl,hb1⟩
   have B1:=hid ((X0.out.trans (hb1.mono X0.out.size)).alloc (X0.out.trans (hb1.mono X0.out.size)).size (.cells #[.int .i64 y0,.int .i64 y1,.int .i64 y2] 53))
   obtain⟨⟨k0,k1,k2⟩,-,-⟩:=row3 (AsW w1 (.cells #[.int .i64 y0,.int .i64 y1,.int .i64 y2] 53))
   clear p0 p1 p2 p3 p4 p5 hb1
   go_wp2
   go_ret
   exact⟨rfl,B1.out⟩
abbrev jB (x:Wk.Stp):Obj:=.cells #[.int .i64 x.s,.int .i64 x.f,.int .i64 x.t] 129
theorem gL (p:Pl.Plan) (A:Option Addr) (c:Nat) (A':Option Addr) (c':Nat) (x:Wk.Stp) (w:World) (h:PlanIn w p A A') :
 Calls Tryz.prog 121 #[aR p A c A' c',jX x] w (OneIs (.int .i64 (Wk.position p x)) w):=by
 obtain⟨s,f,t⟩:=x
 obtain⟨R0,R1,XX,XS⟩:=bO w (aD p A c A' c') (jB ⟨s,f,t⟩)
 have X0:=hid XX
 obtain⟨⟨-,-,-,-,p4,-⟩,-,gp⟩:=row6 R0
 obtain⟨⟨z0,z1,z2⟩,-,gz⟩:=row3 R1
 have HI:=hid (h.below XX)
 clear R0 R1 XX h
 have E:∀ s,Wk.position p ⟨s,f,t⟩=if ((Wk.secAt p s).map Pl.Sec.pt).getD false then max (max f t) 0 else 0:=λ_=>rfl
 rcases Wk.sec_ways p s with ⟨hs,hn⟩|⟨k,rfl,⟨hk,hn⟩|⟨x,hx,hn⟩⟩
 ·have D:decide (s<0)=true:=aC hs
  rw[E,hn]
  clear hs hn E
  go_enter Tryz.func121,Tryz.ntmps121
  go_wp2
  go_ret
  exact⟨rfl,X0.out⟩
 ·have D0:decide ((k:Int)<0)=false:=aB (by omega)
  have D1:decide ((p.secs.length:Int)<=(k:Int))=true:=aC (by omega)
  rw[E,hn]
  clear hn E
  go_enter Tryz.func121,Tryz.ntmps121
  go_wp2
  go_ret
  exact⟨rfl,X0.out⟩
 have hlt:k<p.secs.length:=(ArM hx).1
 have D0:decide ((k:Int)<0)=false:=aB (by omega)
 have D1:decide ((p.secs.length:Int)<=(k:Int))=false:=aB (by omega)
 have N1:¬ p.secs.length<=k:=by omega
 obtain⟨b,o,rfl,hb,on⟩:=bQ HI.out.1 hx
 obtain⟨-,a1,-⟩:=bE on
 rw[E,hn]
 clear hn on hx E
 cases hpt:x.pt
 ·rw[hpt] at a1
  simp only[Option.map_some,Option.getD_some,hpt]
  clear hpt
  go_enter Tryz.func121,Tryz.ntmps121
  go_wp2
  go_ret
  exact⟨rfl,X0.out⟩
 rw[hpt] at a1
 simp only[Option.map_some,Option.getD_some,hpt]
 clear hpt
 go_enter Tryz.func121,Tryz.ntmps121
 go_wp2_with fail
 all_goals refine bodyPost_ret (v:=.int .i64 (max f (max t 0))) ?_ rfl ⟨rfl,X0.out⟩
 all_goals simp[results,Tryz.results121,go_sem]
 all_goals omega
theorem rT {L:List Wk.Stp} {s:Int} {k:Nat} {x:Wk.Stp} (hx:L[k]?=some x) (h:x.s=s):Wk.within L s=true:=by
 unfold Wk.within
 rw[List.any_eq_true]
 exact⟨x,ArX hx,decide_eq_true h⟩
theorem mA {L:List Wk.Stp} {s:Int} (h:∀ j<L.length,∀ x,L[j]?=some x->x.s≠s):Wk.within L s=false:=by
 unfold Wk.within
 rw[List.any_eq_false]
 intro x hx
 obtain⟨j,hj,rfl⟩:=List.getElem_of_mem hx
 simpa using h j hj _ (ArN hj)
theorem uG (w:World) (y:Wk.Stp) {g:Nat} (hg:w.heap.size=g):aE.Row (w.alloc (.cells #[.int .i64 y.s,.int .i64 y.f,.int .i64 y.t] 129)) (some ⟨g,0,none⟩) [y]:=hg ▸ Lies.Row.fresh (E:=aE) w [y] 129
theorem bF (A:Option Addr) (c:Nat) (L:List Wk.Stp) (s:Int) (w:World) (h:aE.Row w A L) (hl:L.length<=1000000) :
 Calls Tryz.prog 116 #[.slice A L.length c,.int .i64 s] w λe w'=>e=.returned (.bool (Wk.within L s))/\w=w':=by
 go_enter Tryz.func116,Tryz.ntmps116
 go_wp2
 go_loop [5] (λi=>∃ k:Nat,k<=L.length/\i=.int .i64 k/\∀ j<k,∀ t,L[j]?=some t->t.s≠s) (λi=>L.length-(intOf i).toNat)
 case atStart=>exact⟨0,AsD _,rfl,λj hj=>absurd hj (by omega)⟩
 case round =>
  obtain⟨k,hk,rfl,h0⟩:=hrel
  have H0:=hid h0
  clear h0
  by_cases hlt:k<L.length
  ·obtain⟨b,o,rfl,hb,on⟩:=h.at hlt
   have hx:=ArN hlt
   generalize L[k]=x at hx on
   obtain⟨a0,-⟩:=bL on
   rw[show k*aE.m=k*3 from rfl] at a0
   have HX:=hid hx
   clear on hx
   by_cases he:x.s=s
   ·have h1:(x.s == s)=true:=by rw[beq_iff_eq];exact he
    have P:=hid (rT HX.out he)
    clear he
    go_wp2
    go_ret
    exact⟨by rw[P.out];rfl,rfl⟩
   have h1:(x.s == s)=false:=by rw[ArU];exact he
   have N:=hid (λj (hj:j<k+1) t (ht:L[j]?=some t)=>(show t.s≠s from by
    by_cases hjk:j=k
    ·subst hjk
     rw[HX.out] at ht
     cases ht
     exact he
    exact H0.out j (by omega) t ht))
   clear he
   go_wp2
   go_round
   case rel=>exact⟨k+1,by omega,by go_num,N.out⟩
   case measure=>simp[intOf];omega
  obtain rfl:k=L.length:=by omega
  have P:=hid (mA H0.out)
  go_wp2
  go_ret
  exact⟨by rw[P.out];rfl,rfl⟩
theorem AgX (W:World) (d:Nat) (g h:Wk.Stp):Sem.run Tryz.prog (Op.equalIn (d+2) 129 (jX g) (jX h)) W=.ok (g.s == h.s && (g.f == h.f && g.t == h.t)) W:=by
 cases h1:g.s == h.s <;> cases h2:g.f == h.f <;> cases h3:g.t == h.t <;> go_simp
theorem AnT (g h:Wk.Stp):(g.s == h.s && (g.f == h.f && g.t == h.t))=decide (g=h):=by
 rw[Bool.eq_iff_iff]
 obtain⟨a,b,c⟩:=g
 obtain⟨a',b',c'⟩:=h
 simp
theorem AeB (W:World) (g h:Wk.Stp):Sem.run Tryz.prog (binOp .neq 129 (jX g) (jX h)) W=.ok (.bool (!decide (g=h))) W:=by
 rw[run_neq_struct,show (10000:Nat)=9998+2 from rfl,AgX,AnT];rfl
def bU (p:Pl.Plan) (s:Int):Pl.Sec × Nat :=
 match Wk.secAt p s with
 | none=>(⟨[],false,0,⟨0,0,0⟩,⟨0,0,0⟩,⟨0,0,0⟩⟩,0)
 | some x=>(x,if x.pt then 3 else 2)
theorem lE (p:Pl.Plan) (s:Int):(bU p s).2<=3:=by
 unfold bU
 split
 ·exact AsD _
 split
 ·exact ArR _
 exact Nat.le_succ _
theorem AbK (p:Pl.Plan) (s e:Int):Wk.endOf p s e=if 0<=e/\e<((bU p s).2:Int) then some ((bU p s).1.get e.toNat) else none:=by
 unfold Wk.endOf bU
 cases Wk.secAt p s with
 | none =>
   simp only
   rw[ArY (by omega)]
 | some x =>
   simp only
   unfold Wk.isEnd
   cases x.pt
   ·simp only[Bool.or_false,AsF,decide_eq_true_eq,Bool.false_eq_true,if_false]
    by_cases h:0<=e/\e<=2/\e≠2
    ·rw[ArZ h,ArZ (by omega)]
    rw[ArY h,ArY (by omega)]
   simp only[Bool.or_true,Bool.and_true,AsF,decide_eq_true_eq,if_true]
   by_cases h:0<=e/\e<=2
   ·rw[ArZ h,ArZ (by omega)]
   rw[ArY h,ArY (by omega)]
abbrev ArI (x:Pl.Sec):Value:=.agg #[.int .i64 x.e0.goes,.int .i64 x.e0.at_,.int .i64 x.e0.sig,.int .i64 x.e1.goes,.int .i64 x.e1.at_,.int .i64 x.e1.sig,.int .i64 x.e2.goes,.int .i64 x.e2.at_,.int .i64 x.e2.sig]
abbrev jC (x:Pl.Sec):Obj:=.cells #[.int .i64 x.e0.goes,.int .i64 x.e0.at_,.int .i64 x.e0.sig,.int .i64 x.e1.goes,.int .i64 x.e1.at_,.int .i64 x.e1.sig,.int .i64 x.e2.goes,.int .i64 x.e2.at_,.int .i64 x.e2.sig] 54
abbrev AqT:Obj:=.cells #[.int .i64 0,.int .i64 0,.int .i64 0,.int .i64 0,.int .i64 0,.int .i64 0,.int .i64 0,.int .i64 0,.int .i64 0] 54
abbrev AqU (x:Pl.Sec):Obj:=.cells #[.string (txt x.name),.bool x.pt,.int .i64 x.len,.int .i64 x.e0.goes,.int .i64 x.e0.at_,.int .i64 x.e0.sig,.int .i64 x.e1.goes,.int .i64 x.e1.at_,.int .i64 x.e1.sig,.int .i64 x.e2.goes,.int .i64 x.e2.at_,.int .i64 x.e2.sig] 56
def AnU (x:Pl.Sec × Nat) (w:World) (e:Ending) (w':World):Prop:=e=.returned (.tuple #[ArI x.1,.int .i64 x.2])/\Below w.heap.size w w'
theorem lF (w:World) (a b c:Obj):(((w.alloc a).alloc b).alloc c).heap[w.heap.size]?=some a/\(((w.alloc a).alloc b).alloc c).heap[w.heap.size+1]?=some b/\(((w.alloc a).alloc b).alloc c).heap[w.heap.size+2]?=some c/\Below w.heap.size w (((w.alloc a).alloc b).alloc c):=by
 have s1:(w.alloc a).heap.size=w.heap.size+1:=by simp
 have s2:((w.alloc a).alloc b).heap.size=w.heap.size+2:=by simp
 refine⟨?_,?_,?_,(((Below.refl _ _).alloc (ArR _) _).alloc (by omega) _).alloc (by omega) _⟩
 ·rw[heap_alloc_old _ _ (by omega),heap_alloc_old _ _ (by omega)];exact AsW _ _
 ·rw[heap_alloc_old _ _ (by omega),<-s1];exact AsW _ _
 rw[<-s2];exact AsW _ _
theorem row9 {w:World} {g:Nat} {a b c d e f i j k:Value} {t:TypeId} (h:w.heap[g]?=some (.cells #[a,b,c,d,e,f,i,j,k] t (0,0))) :
 (w.cell? ⟨g,0,none⟩=some a/\w.cell? ⟨g,1,none⟩=some b/\w.cell? ⟨g,2,none⟩=some c/\w.cell? ⟨g,3,none⟩=some d/\w.cell? ⟨g,4,none⟩=some e/\w.cell? ⟨g,5,none⟩=some f/\w.cell? ⟨g,6,none⟩=some i/\w.cell? ⟨g,7,none⟩=some j/\w.cell? ⟨g,8,none⟩=some k) /\
 (w.frozen? ⟨g,0,none⟩=false/\w.frozen? ⟨g,1,none⟩=false/\w.frozen? ⟨g,2,none⟩=false/\w.frozen? ⟨g,3,none⟩=false/\w.frozen? ⟨g,4,none⟩=false/\w.frozen? ⟨g,5,none⟩=false/\w.frozen? ⟨g,6,none⟩=false/\w.frozen? ⟨g,7,none⟩=false/\w.frozen? ⟨g,8,none⟩=false)/\g<w.heap.size :=
 ⟨⟨AsY w g 0 _ t _ h,AsY w g 1 _ t _ h,AsY w g 2 _ t _ h,AsY w g 3 _ t _ h,AsY w g 4 _ t _ h,AsY w g 5 _ t _ h,AsY w g 6 _ t _ h,AsY w g 7 _ t _ h,AsY w g 8 _ t _ h⟩,
   ⟨AsZ w g 0 _ t h,AsZ w g 1 _ t h,AsZ w g 2 _ t h,AsZ w g 3 _ t h,AsZ w g 4 _ t h,AsZ w g 5 _ t h,AsZ w g 6 _ t h,AsZ w g 7 _ t h,AsZ w g 8 _ t h⟩,(ArL h).1⟩
theorem AnV {w:World} {g:Nat} {x:Pl.Sec} (h:w.heap[g]?=some (AqU x)) :
 w.cell? ⟨g,1,none⟩=some (.bool x.pt)/\w.cell? ⟨g,3,none⟩=some (.int .i64 x.e0.goes)/\w.cell? ⟨g,4,none⟩=some (.int .i64 x.e0.at_)/\w.cell? ⟨g,5,none⟩=some (.int .i64 x.e0.sig)/\w.cell? ⟨g,6,none⟩=some (.int .i64 x.e1.goes)/\w.cell? ⟨g,7,none⟩=some (.int .i64 x.e1.at_) /\
  w.cell? ⟨g,8,none⟩=some (.int .i64 x.e1.sig)/\w.cell? ⟨g,9,none⟩=some (.int .i64 x.e2.goes)/\w.cell? ⟨g,10,none⟩=some (.int .i64 x.e2.at_)/\w.cell? ⟨g,11,none⟩=some (.int .i64 x.e2.sig)/\g<w.heap.size :=
 ⟨AsY w g 1 _ _ _ h,AsY w g 3 _ _ _ h,AsY w g 4 _ _ _ h,AsY w g 5 _ _ _ h,AsY w g 6 _ _ _ h,AsY w g 7 _ _ _ h,AsY w g 8 _ _ _ h,AsY w g 9 _ _ _ h,AsY w g 10 _ _ _ h,AsY w g 11 _ _ _ h,(ArL h).1⟩
theorem jD (p:Pl.Plan) (A:Option Addr) (c:Nat) (A':Option Addr) (c':Nat) (s:Int) (w:World) (h:PlanIn w p A A') :
 Calls Tryz.prog 132 #[aR p A c A' c',.int .i64 s] w (AnU (bU p s) w):=by
 --[
 obtain⟨R0,R1,XX,XS⟩:=bO w (aD p A c A' c') AqT
 have X0:=hid XX
 obtain⟨⟨-,-,-,-,p4,-⟩,-,gp⟩:=row6 R0
 obtain⟨⟨z0,z1,z2,z3,z4,z5,z6,z7,z8⟩,⟨f0,f1,f2,f3,f4,f5,f6,f7,f8⟩,gz⟩:=row9 R1
 have HI:=hid (h.below XX)
 clear R0 R1 XX h
 rcases Wk.sec_ways p s with ⟨hs,hn⟩|⟨k,rfl,⟨hk,hn⟩|⟨x,hx,hn⟩⟩
 ·have D:decide (s<0)=true:=aC hs
  have E:bU p s=(⟨[],false,0,⟨0,0,0⟩,⟨0,0,0⟩,⟨0,0,0⟩⟩,0):=by unfold bU;rw[hn]
  rw[E]
  clear hs hn E
  go_enter Tryz.func132,Tryz.ntmps132
  go_wp2_with fail
  refine bodyPost_ret ?_ rfl ⟨rfl,?_⟩
  ·simp[results,Tryz.results132,go_sem, *]
  (repeat (with_reducible refine Below.setCell ?_ (by exact Nat.le_succ _) _));exact X0.out
 ·have D0:decide ((k:Int)<0)=false:=aB (by omega)
  have D1:decide ((p.secs.length:Int)<=(k:Int))=true:=aC (by omega)
  have E:bU p k=(⟨[],false,0,⟨0,0,0⟩,⟨0,0,0⟩,⟨0,0,0⟩⟩,0):=by unfold bU;rw[hn]
  rw[E]
  clear hn E
  go_enter Tryz.func132,Tryz.ntmps132
  go_wp2_with fail
  refine bodyPost_ret ?_ rfl ⟨rfl,?_⟩
  ·simp[results,Tryz.results132,go_sem, *]
  (repeat (with_reducible refine Below.setCell ?_ (by exact Nat.le_succ _) _));exact X0.out
 ·have hlt:k<p.secs.length:=(ArM hx).1
  have D0:decide ((k:Int)<0)=false:=aB (by omega)
  have D1:decide ((p.secs.length:Int)<=(k:Int))=false:=aB (by omega)
  have N1:¬ p.secs.length<=k:=by omega
  have E:bU p k=(x,if x.pt then 3 else 2):=by unfold bU;rw[hn]
  rw[E]
  obtain⟨b,o,rfl,hb,on⟩:=bQ HI.out.1 hx
  obtain⟨a0,a1,a2,a3,a4,a5,a6,a7,a8,a9,a10,a11⟩:=bE on
  obtain⟨-,R1,R2,-⟩:=lF w (aD p (some ⟨b,o,none⟩) c A' c') AqT (AqU x)
  obtain⟨⟨y0,y1,y2,y3,y4,y5,y6,y7,y8⟩,⟨q0,q1,q2,q3,q4,q5,q6,q7,q8⟩,gy⟩:=row9 R1
  obtain⟨t1,t3,t4,t5,t6,t7,t8,t9,t10,t11,gt⟩:=AnV R2
  clear hn on hx E R1 R2 X0
  cases hpt:x.pt
  ·rw[hpt] at a1 t1
   simp only[Bool.false_eq_true,if_false]
   clear hpt
   go_enter Tryz.func132,Tryz.ntmps132
   go_wp2_with fail
   refine bodyPost_ret ?_ rfl ⟨rfl,?_⟩
   ·simp[results,Tryz.results132,go_sem, *]
   exact(lF w _ _ _).2.2.2
  rw[hpt] at a1 t1
  simp only[if_true]
  clear hpt
  go_enter Tryz.func132,Tryz.ntmps132
  go_wp2_with fail
  refine bodyPost_ret ?_ rfl ⟨rfl,?_⟩
  ·simp[results,Tryz.results132,go_sem, *]
  exact(lF w _ _ _).2.2.2
 --]
theorem AkZ {w:World} {g:Nat} {x:Pl.Sec} (h:w.heap[g]?=some (jC x)) {e:Nat} (he:e<3):w.cell? ⟨g,e*3,none⟩=some (.int .i64 (x.get e).goes)/\w.cell? ⟨g,e*3+1,none⟩=some (.int .i64 (x.get e).at_)/\w.cell? ⟨g,e*3+2,none⟩=some (.int .i64 (x.get e).sig):=by
 obtain⟨⟨a3,a4,a5,a6,a7,a8,a9,a10,a11⟩,-,-⟩:=row9 h
 have:e=0∨e=1∨e=2:=by omega
 rcases this with rfl|rfl|rfl
 ·exact⟨a3,a4,a5⟩
 ·exact⟨a6,a7,a8⟩
 exact⟨a9,a10,a11⟩
theorem rU (p:Pl.Plan) (A:Option Addr) (c:Nat) (A':Option Addr) (c':Nat) (s e:Int) (w:World) (h:PlanIn w p A A') :
 Calls Tryz.prog 97 #[aR p A c A' c',.int .i64 s,.int .i64 e] w (AoZ (Wk.endOf p s e) w):=by
 --[
 obtain⟨R0,R1,XX,XS⟩:=bO w (aD p A c A' c') uF
 have X0:=hid XX
 obtain⟨⟨p0,p1,p2,p3,p4,p5⟩,-,gp⟩:=row6 R0
 have HR1:=hid R1
 have EN:=hid (jD p A c A' c' s _ (h.below XX))
 have hle:=lE p s
 rw[AbK]
 clear R0 R1 XX h
 generalize bU p s=q at EN hle
 obtain⟨x,n⟩:=q
 simp only at hle
 have fin2:∀ w1,Below ((w.alloc (aD p A c A' c')).alloc uF).heap.size ((w.alloc (aD p A c A' c')).alloc uF) w1->(w1.alloc (jC x)).heap[w.heap.size+1]?=some uF/\(w1.alloc (jC x)).heap[w1.heap.size]?=some (jC x)/\Below w.heap.size w (w1.alloc (jC x)):=λw1 hb=>by
  have hsz:=hb.size
  refine⟨?_,AsW _ _,(X0.out.trans (hb.mono X0.out.size)).alloc (X0.out.trans (hb.mono X0.out.size)).size _⟩
  rw[heap_alloc_old _ _ (by omega),hb.block _ (by omega)]
  exact HR1.out
 have F2:=hid fin2
 clear fin2 HR1
 by_cases h0:e<0
 ·have D2:decide (e<0)=true:=aC h0
  rw[ArY (by omega)]
  clear h0
  go_enter Tryz.func97,Tryz.ntmps97
  go_wp2_with fail
  refine EN.out.mono ?_;rintro e w1 ⟨rfl,hb1⟩
  obtain⟨R1,R2,B2⟩:=F2.out w1 hb1
  obtain⟨⟨z0,z1,z2⟩,⟨f0,f1,f2⟩,gz⟩:=row3 R1
  have H2:=hid B2
  clear p0 p1 p2 p3 p4 p5 hb1 R1 R2 B2 F2 EN
  go_wp2_with fail
  refine bodyPost_ret ?_ rfl ⟨rfl,?_⟩
  ·simp[results,Tryz.results97,go_sem, *]
  (repeat (with_reducible refine Below.setCell ?_ (by exact Nat.le_succ _) _));exact H2.out
 have D2:decide (e<0)=false:=aB h0
 obtain⟨j,rfl⟩:∃ j:Nat,e=j:=⟨e.toNat,by omega⟩
 by_cases h2:n<=j
 ·have D3:decide ((n:Int)<=(j:Int))=true:=aC (by omega)
  rw[ArY (by simp only;omega)]
  clear h0
  go_enter Tryz.func97,Tryz.ntmps97
  go_wp2_with fail
  refine EN.out.mono ?_;rintro e w1 ⟨rfl,hb1⟩
  obtain⟨R1,R2,B2⟩:=F2.out w1 hb1
  obtain⟨⟨z0,z1,z2⟩,⟨f0,f1,f2⟩,gz⟩:=row3 R1
  have H2:=hid B2
  clear p0 p1 p2 p3 p4 p5 hb1 R1 R2 B2 F2 EN
  go_wp2_with fail
  refine bodyPost_ret ?_ rfl ⟨rfl,?_⟩
  ·simp[results,Tryz.results97,go_sem, *]
  (repeat (with_reducible refine Below.setCell ?_ (by exact Nat.le_succ _) _));exact H2.out
 ·have D3:decide ((n:Int)<=(j:Int))=false:=aB (by omega)
  have N3:¬ n<=j:=h2
  have j3:(j:Int)<3:=by omega
  have j3':j<3:=by omega
  rw[ArZ (by simp only;omega),AsP]
  obtain⟨⟨y0,y1,y2⟩,hy⟩:∃ y,y=x.get j:=⟨_,rfl⟩
  have HY:=hid hy.symm
  simp only
  rw[<-hy]
  clear h0 h2 hy
  go_enter Tryz.func97,Tryz.ntmps97
  go_wp2_with fail
  refine EN.out.mono ?_;rintro e w1 ⟨rfl,hb1⟩
  obtain⟨R1,R2,B2⟩:=F2.out w1 hb1
  obtain⟨⟨z0,z1,z2⟩,⟨f0,f1,f2⟩,gz⟩:=row3 R1
  obtain⟨k0,k1,k2⟩:=AkZ R2 j3'
  have gk:=(ArL R2).1
  rw[HY.out] at k0 k1 k2
  simp only at k0 k1 k2
  have H2:=hid B2
  clear p0 p1 p2 p3 p4 p5 hb1 R1 R2 B2 F2 EN
  go_wp2_with fail
  refine bodyPost_ret ?_ rfl ⟨rfl,?_⟩
  ·simp[results,Tryz.results97,go_sem, *]
  (repeat (with_reducible refine Below.setCell ?_ (by exact Nat.le_succ _) _));exact H2.out
 --]
theorem eL (p:Pl.Plan) (A:Option Addr) (c:Nat) (A':Option Addr) (c':Nat) (x:Wk.Stp) (w:World) (h:PlanIn w p A A') (_hl:p.secs.length<=24) :
 Calls Tryz.prog 105 #[aR p A c A' c',jX x] w (OneIs (.int .i64 (Wk.position p x)) w):=by
 --[
 obtain⟨s,f,t⟩:=x
 obtain⟨R0,R1,XX,XS⟩:=bO w (aD p A c A' c') (jB ⟨s,f,t⟩)
 have X0:=hid XX
 obtain⟨⟨-,-,-,-,p4,-⟩,-,gp⟩:=row6 R0
 obtain⟨⟨z0,z1,z2⟩,-,gz⟩:=row3 R1
 have HI:=hid (h.below XX)
 clear R0 R1 XX h
 have E:∀ s,Wk.position p ⟨s,f,t⟩=if ((Wk.secAt p s).map Pl.Sec.pt).getD false then max (max f t) 0 else 0:=λ_=>rfl
 rcases Wk.sec_ways p s with ⟨hs,hn⟩|⟨k,rfl,⟨hk,hn⟩|⟨x,hx,hn⟩⟩
 ·have D:decide (s<0)=true:=aC hs
  rw[E,hn]
  clear hs hn E
  go_enter Tryz.func105,Tryz.ntmps105
  go_wp2
  go_ret
  exact⟨rfl,X0.out⟩
 ·have D0:decide ((k:Int)<0)=false:=aB (by omega)
  have D1:decide ((p.secs.length:Int)<=(k:Int))=true:=aC (by omega)
  rw[E,hn]
  clear hn E
  go_enter Tryz.func105,Tryz.ntmps105
  go_wp2
  go_ret
  exact⟨rfl,X0.out⟩
 ·have hlt:k<p.secs.length:=(ArM hx).1
  have D0:decide ((k:Int)<0)=false:=aB (by omega)
  have D1:decide ((p.secs.length:Int)<=(k:Int))=false:=aB (by omega)
  have N1:¬ p.secs.length<=k:=by omega
  obtain⟨b,o,rfl,hb,on⟩:=bQ HI.out.1 hx
  obtain⟨-,a1,-⟩:=bE on
  rw[E,hn]
  clear hn on hx E
  cases hpt:x.pt
  ·rw[hpt] at a1
   simp only[Option.map_some,Option.getD_some,hpt]
   clear hpt
   go_enter Tryz.func105,Tryz.ntmps105
   go_wp2
   go_ret
   exact⟨rfl,X0.out⟩
  rw[hpt] at a1
  simp only[Option.map_some,Option.getD_some,hpt]
  clear hpt
  go_enter Tryz.func105,Tryz.ntmps105
  go_wp2_with fail
  all_goals refine bodyPost_ret (v:=.int .i64 (max f (max t 0))) ?_ rfl ⟨rfl,X0.out⟩
  all_goals simp[results,Tryz.results105,go_sem]
  all_goals omega
 --]
theorem AnW (x:Wk.Stp) (s:Int) (g:Nat) (W:World) (hg:g<W.heap.size) (hc:W.cell? ⟨g,0,none⟩=some (.int .i64 s)) :
 Calls Tryz.prog 133 #[jX x,.pointer (some ⟨g,0,none⟩)] W λe w'=>e=.returned (.bool (x.s == s))/\Below W.heap.size W w':=by
 --[
 obtain⟨a,b,d⟩:=x
 have hne:g≠W.heap.size:=by omega
 have X:=hid ((AtB W).alloc (ArR _) (jB ⟨a,b,d⟩))
 show Calls Tryz.prog 133 #[.agg #[.int .i64 a,.int .i64 b,.int .i64 d],.pointer (some ⟨g,0,none⟩)] W λe w'=>e=.returned (.bool (a == s))/\Below W.heap.size W w'
 cases h1:(a == s)
 ·go_enter Tryz.func133,Tryz.ntmps133
  go_wp2
  go_ret
  exact⟨rfl,X.out⟩
 ·go_enter Tryz.func133,Tryz.ntmps133
  go_wp2
  go_ret
  exact⟨rfl,X.out⟩
 --]
def xQ (b:Bool) (w:World) (e:Ending) (w':World):Prop:=∃ i:Int,e=.returned (.int .i64 i)/\(b=true->decide (0<=i)=true)/\(b=false->i = -1)/\Below w.heap.size w w'
theorem AbL (A:Option Addr) (c:Nat) (L:List Wk.Stp) (s:Int) (g:Nat) (w:World) (h:aE.Row w A L) (hl:L.length<=1000000) (hg:g<w.heap.size) (hc:w.cell? ⟨g,0,none⟩=some (.int .i64 s)) :
 Calls Tryz.prog 152 #[.slice A L.length c,.func (.func 133) #[] #[.pointer (some ⟨g,0,none⟩)]] w (xQ (Wk.within L s) w):=by
 --[
 have eg:∀ args w,(callFunc 133 args).run Tryz.prog w=.ok (.enter 133 args) w:=enters_of Tryz.func133 (by kernel_rfl) rfl
 have IA:=hid h
 have CL:=hid (λx W (hb:Below w.heap.size w W)=>AnW x s g W (AsE hg hb.size) ((hb.cell (p:=⟨g,0,none⟩) hg).trans hc))
 clear h hc
 go_enter Tryz.func152,Tryz.ntmps152
 go_wp2
 go_loopg [5,8] L.length (λgg _ s8 wr=>∃ k:Nat,k<=L.length/\L.length-k<=gg/\s8=.int .i64 k/\Below w.heap.size w wr/\∀ j<k,∀ t,L[j]?=some t->t.s≠s)
 case atStart=>exact⟨0,AsD _,by omega,rfl,Below.refl _ w,λj hj=>absurd hj (Nat.not_lt_zero _)⟩
 case round =>
  obtain⟨k,hk,hgg,rfl,hB,h0⟩:=hrel
  have HB:=hid hB
  have H0:=hid h0
  clear hB h0
  by_cases hlt:k<L.length
  ·have d1:decide ((k:Int)<(L.length:Int))=true:=aC (by omega)
   have hx:=ArN hlt
   obtain⟨b,o,rfl,hb,on⟩:=(IA.out.below rfl HB.out).at hlt
   generalize L[k]=x at hx on
   obtain⟨a0,a1,a2⟩:=bL on
   rw[show k*aE.m=k*3 from rfl] at a0 a1 a2
   have HX:=hid hx
   have CX:=hid (CL.out x wr HB.out)
   clear on hx
   by_cases he:x.s=s
   ·have h1:(x.s == s)=true:=by rw[beq_iff_eq];exact he
    have P:=hid (rT HX.out he)
    rw[h1] at CX
    clear he h1
    go_wp2_with (go_at_fn 133;refine CX.out.mono ?_;rintro e w' ⟨rfl,hb'⟩;have HB2:=hid (HB.out.trans (hb'.mono HB.out.size));clear hb')
    go_ret
    exact⟨(k:Int),rfl,(λ_=>aC (by omega)),(λh=>absurd (P.out.symm.trans h) (by decide)),HB2.out⟩
   have h1:(x.s == s)=false:=by rw[ArU];exact he
   have N:=hid (λj (hj:j<k+1) t (ht:L[j]?=some t)=>(show t.s≠s from by
    by_cases hjk:j=k
    ·subst hjk
     rw[HX.out] at ht
     cases ht
     exact he
    exact H0.out j (by omega) t ht))
   rw[h1] at CX
   clear he h1
   go_wp2_with (go_at_fn 133;refine CX.out.mono ?_;rintro e w' ⟨rfl,hb'⟩;have HB2:=hid (HB.out.trans (hb'.mono HB.out.size));clear hb')
   go_roundg (L.length-(k+1))
   case measure=>omega
   case rel=>exact⟨k+1,by omega,by omega,by go_num,HB2.out,N.out⟩
  obtain rfl:k=L.length:=by omega
  have P:=hid (mA H0.out)
  go_wp2
  go_ret
  exact⟨-1,rfl,(λh=>absurd (P.out.symm.trans h) (by decide)),(λ_=>rfl),HB.out⟩
 --]
theorem AlA (A:Option Addr) (c:Nat) (L:List Wk.Stp) (s:Int) (g:Nat) (w:World) (h:aE.Row w A L) (hl:L.length<=1000000) (hg:g<w.heap.size) (hc:w.cell? ⟨g,0,none⟩=some (.int .i64 s)) :
 Calls Tryz.prog 126 #[.slice A L.length c,.func (.func 133) #[] #[.pointer (some ⟨g,0,none⟩)]] w (OneIs (.bool (Wk.within L s)) w):=by
 --[
 have HC:=hid (AbL A c L s g w h hl hg hc)
 clear h hc hg
 cases hb:Wk.within L s with
 | true =>
   rw[hb] at HC
   clear hb
   go_enter Tryz.func126,Tryz.ntmps126
   go_wp2_with fail
   refine HC.out.mono ?_;rintro e w' ⟨i,rfl,h1,-,hb'⟩
   have D:=h1 rfl
   have HB:=hid hb'
   clear h1 hb' HC
   go_wp2
   go_ret
   exact⟨rfl,HB.out⟩
 | false =>
   rw[hb] at HC
   clear hb
   go_enter Tryz.func126,Tryz.ntmps126
   go_wp2_with fail
   refine HC.out.mono ?_;rintro e w' ⟨i,rfl,-,h2,hb'⟩
   obtain rfl:=h2 rfl
   have HB:=hid hb'
   clear h2 hb' HC
   go_wp2
   go_ret
   exact⟨rfl,HB.out⟩
 --]
theorem bG (A:Option Addr) (c:Nat) (L:List Wk.Stp) (s:Int) (w:World) (h:aE.Row w A L) (hl:L.length<=1000000) :
 Calls Tryz.prog 98 #[.slice A L.length c,.int .i64 s] w (OneIs (.bool (Wk.within L s)) w):=by
 --[
 have hb0:=(AtB w).alloc (ArR _) (.cells #[.int .i64 s] 3)
 have HC:=hid (AlA A c L s w.heap.size _ (h.below rfl hb0) hl (by simp) (AsY _ _ 0 _ _ _ (AsW w (.cells #[.int .i64 s] 3))))
 have HB0:=hid hb0
 clear h hb0
 go_enter Tryz.func98,Tryz.ntmps98
 go_wp2_with fail
 refine HC.out.mono ?_;rintro e w' ⟨rfl,hb'⟩
 go_wp2
 go_ret
 exact⟨rfl,HB0.out.trans (hb'.mono HB0.out.size)⟩
 --]
theorem dC (p:Pl.Plan) (A:Option Addr) (c:Nat) (A':Option Addr) (c':Nat) (s e:Int) (w:World) (h:PlanIn w p A A') (_hl:p.secs.length<=24) :
 Calls Tryz.prog 62 #[aR p A c A' c',.int .i64 s,.int .i64 e] w (AkY (Wk.next p s e) w):=by
 --[
 have R0:=AsW w (aD p A c A' c')
 have XX:=(AtB w).alloc (ArR _) (aD p A c A' c')
 have X0:=hid XX
 obtain⟨⟨p0,p1,p2,p3,p4,p5⟩,-,gp⟩:=row6 R0
 have AT:=hid (rU p A c A' c' s e _ (h.below XX))
 have E:Wk.next p s e=match Wk.endOf p s e with|none=>(0,0,false)|some x=>if x.goes<0 then(0,0,false) else(x.goes,x.at_,true):=rfl
 rw[E]
 clear R0 XX h E
 cases hx:Wk.endOf p s e with
 | none =>
   rw[hx] at AT
   clear hx
   go_enter Tryz.func62,Tryz.ntmps62
   go_wp2_with fail
   refine AT.out.mono ?_;rintro e w1 ⟨rfl,hb1⟩
   have B1:=hid ((X0.out.trans (hb1.mono X0.out.size)).alloc (X0.out.trans (hb1.mono X0.out.size)).size uF)
   clear p0 p1 p2 p3 p4 p5 hb1
   go_wp2_with fail
   refine bodyPost_ret ?_ rfl ⟨rfl,B1.out⟩
   simp[results,Tryz.results62,go_sem]
 | some y =>
   rw[hx] at AT
   obtain⟨y0,y1,y2⟩:=y
   by_cases h0:y0<0
   ·have D:decide (y0<0)=true:=aC h0
    simp only
    rw[ArZ h0]
    clear hx h0
    go_enter Tryz.func62,Tryz.ntmps62
    go_wp2_with fail
    refine AT.out.mono ?_;rintro e w1 ⟨rfl,hb1⟩
    have B1:=hid ((X0.out.trans (hb1.mono X0.out.size)).alloc (X0.out.trans (hb1.mono X0.out.size)).size (.cells #[.int .i64 y0,.int .i64 y1,.int .i64 y2] 53))
    obtain⟨⟨k0,k1,k2⟩,-,-⟩:=row3 (AsW w1 (.cells #[.int .i64 y0,.int .i64 y1,.int .i64 y2] 53))
    clear p0 p1 p2 p3 p4 p5 hb1
    go_wp2_with fail
    refine bodyPost_ret ?_ rfl ⟨rfl,B1.out⟩
    simp[results,Tryz.results62,go_sem]
   have D:decide (y0<0)=false:=aB h0
   simp only
   rw[ArY h0]
   clear hx h0
   go_enter Tryz.func62,Tryz.ntmps62
   go_wp2_with fail
   refine AT.out.mono ?_;rintro e w1 ⟨rfl,hb1⟩
   have B1:=hid ((X0.out.trans (hb1.mono X0.out.size)).alloc (X0.out.trans (hb1.mono X0.out.size)).size (.cells #[.int .i64 y0,.int .i64 y1,.int .i64 y2] 53))
   obtain⟨⟨k0,k1,k2⟩,-,-⟩:=row3 (AsW w1 (.cells #[.int .i64 y0,.int .i64 y1,.int .i64 y2] 53))
   clear p0 p1 p2 p3 p4 p5 hb1
   go_wp2_with fail
   go_quiet (fail)
   go_wp2_with fail
   refine bodyPost_ret ?_ rfl ⟨rfl,aH B1.out _⟩
   simp[results,Tryz.results62,go_sem]
 --]
theorem jZ (p:Pl.Plan) (A:Option Addr) (c:Nat) (A':Option Addr) (c':Nat) (s e:Int) (w:World) (h:PlanIn w p A A') (_hl:p.secs.length<=24) :
 Calls Tryz.prog 134 #[aR p A c A' c',.int .i64 s,.int .i64 e] w (OneIs (.int .i64 (Wk.signal p s e)) w):=by
 --[
 have R0:=AsW w (aD p A c A' c')
 have XX:=(AtB w).alloc (ArR _) (aD p A c A' c')
 have X0:=hid XX
 obtain⟨⟨p0,p1,p2,p3,p4,p5⟩,-,gp⟩:=row6 R0
 have AT:=hid (rU p A c A' c' s e _ (h.below XX))
 have E:Wk.signal p s e=match Wk.endOf p s e with|none=>-1|some x=>x.sig:=rfl
 rw[E]
 clear R0 XX h E
 cases hx:Wk.endOf p s e with
 | none =>
   rw[hx] at AT
   clear hx
   go_enter Tryz.func134,Tryz.ntmps134
   go_wp2_with fail
   refine AT.out.mono ?_;rintro e w1 ⟨rfl,hb1⟩
   have B1:=hid ((X0.out.trans (hb1.mono X0.out.size)).alloc (X0.out.trans (hb1.mono X0.out.size)).size uF)
   clear p0 p1 p2 p3 p4 p5 hb1
   go_wp2
   go_ret
   exact⟨rfl,B1.out⟩
 | some y =>
   rw[hx] at AT
   obtain⟨y0,y1,y2⟩:=y
   clear hx
   go_enter Tryz.func134,Tryz.ntmps134
   go_wp2_with fail
   refine AT.out.mono ?_;rintro e w1 ⟨rfl,hb1⟩
   have B1:=hid ((X0.out.trans (hb1.mono X0.out.size)).alloc (X0.out.trans (hb1.mono X0.out.size)).size (.cells #[.int .i64 y0,.int .i64 y1,.int .i64 y2] 53))
   obtain⟨⟨k0,k1,k2⟩,-,-⟩:=row3 (AsW w1 (.cells #[.int .i64 y0,.int .i64 y1,.int .i64 y2] 53))
   clear p0 p1 p2 p3 p4 p5 hb1
   go_wp2
   go_ret
   exact⟨rfl,B1.out⟩
 --]
theorem fR:(Tryz.prog.info? 129).map (λi=>(i.zero,i.size,i.bytes))=some (some (.agg #[.int .i64 0,.int .i64 0,.int .i64 0]),3,24):=by kernel_rfl
def eT (s:Int) (k:Nat):List Wk.Stp:=(List.range k).map λ(i:Nat)=>(⟨s,0,(i:Int)+1⟩:Wk.Stp)
theorem mB (s:Int) (k:Nat):eT s (k+1)=eT s k++[⟨s,0,(k:Int)+1⟩]:=by
 unfold eT
 rw[List.range_succ,List.map_append];rfl
theorem pA (s:Int) (k:Nat):(eT s k).length=k:=by unfold eT;rw[AsH,List.length_range]
theorem rV (p:Pl.Plan) (s f:Int):Wk.outs p s f=if f<0∨((bU p s).2:Int)<=f then [] else if 0<f then [⟨s,f,0⟩] else eT s ((bU p s).2-1):=by
 unfold Wk.outs bU
 cases Wk.secAt p s with
 | none =>
   simp only
   rw[ArZ (by omega)]
 | some x =>
   simp only
   cases x.pt
   ·simp only[Bool.false_eq_true,if_false]
    by_cases h0:f=0
    ·subst h0;rfl
    by_cases h1:f=1
    ·subst h1;rfl
    rw[ArY (by omega),ArZ (by omega)]
   simp only[if_true]
   by_cases h0:f=0
   ·subst h0;rfl
   by_cases h1:f=1∨f=2
   ·rw[ArY h0,ArZ h1,ArY (by omega),ArZ (by omega)]
   rw[ArY h0,ArY h1,ArZ (by omega)]
def AeC (w wr:World) (v:Value) (L:List Wk.Stp):Prop:=Below w.heap.size w wr/\wr.ownsRow w.heap.size 129 aE.m v L.length (aE.all L)
theorem AbM (p:Pl.Plan) (A:Option Addr) (c:Nat) (A':Option Addr) (c':Nat) (s f:Int) (w:World) (h:PlanIn w p A A') (_hl:p.secs.length<=24) :
 Calls Tryz.prog 99 #[aR p A c A' c',.int .i64 s,.int .i64 f] w (AkW (Wk.outs p s f) w):=by
 --[
 obtain⟨i0,hi,hz0,hz1,hz2⟩:=info_parts fR
 have R0:=AsW w (aD p A c A' c')
 have XX:=(AtB w).alloc (ArR _) (aD p A c A' c')
 have X0:=hid XX
 obtain⟨⟨p0,p1,p2,p3,p4,p5⟩,-,gp⟩:=row6 R0
 have EN:=hid (jD p A c A' c' s _ (h.below XX))
 have hle:=lE p s
 rw[rV]
 clear R0 XX h
 generalize bU p s=q at EN hle
 obtain⟨x,n⟩:=q
 simp only at hle
 simp only
 by_cases h0:f<0
 ·have D2:decide (f<0)=true:=aC h0
  rw[ArZ (.inl h0)]
  clear h0
  go_enter Tryz.func99,Tryz.ntmps99
  go_wp2_with fail
  refine EN.out.mono ?_;rintro e w1 ⟨rfl,hb1⟩
  have B1:=hid ((X0.out.trans (hb1.mono X0.out.size)).alloc (X0.out.trans (hb1.mono X0.out.size)).size (jC x))
  clear p0 p1 p2 p3 p4 p5 hb1 EN
  go_wp2
  go_ret
  exact⟨none,0,rfl,.inl rfl,B1.out⟩
 have D2:decide (f<0)=false:=aB h0
 by_cases h2:(n:Int)<=f
 ·have D3:decide ((n:Int)<=f)=true:=aC h2
  rw[ArZ (.inr h2)]
  clear h0 h2
  go_enter Tryz.func99,Tryz.ntmps99
  go_wp2_with fail
  refine EN.out.mono ?_;rintro e w1 ⟨rfl,hb1⟩
  have B1:=hid ((X0.out.trans (hb1.mono X0.out.size)).alloc (X0.out.trans (hb1.mono X0.out.size)).size (jC x))
  clear p0 p1 p2 p3 p4 p5 hb1 EN
  go_wp2
  go_ret
  exact⟨none,0,rfl,.inl rfl,B1.out⟩
 have D3:decide ((n:Int)<=f)=false:=aB h2
 rw[ArY (by omega)]
 by_cases h1:0<f
 ·have D4:decide (0<f)=true:=aC h1
  rw[ArZ h1]
  clear h0 h2 h1
  go_enter Tryz.func99,Tryz.ntmps99
  go_wp2_with fail
  refine EN.out.mono ?_;rintro e w1 ⟨rfl,hb1⟩
  have B1:=hid ((X0.out.trans (hb1.mono X0.out.size)).alloc (X0.out.trans (hb1.mono X0.out.size)).size (jC x))
  clear p0 p1 p2 p3 p4 p5 hb1 EN
  go_wp2
  go_ret
  exact⟨_,_,rfl,uG (w1.alloc (jC x)) ⟨s,f,0⟩ (by simp),B1.out.alloc B1.out.size _⟩
 ·have D4:decide (0<f)=false:=aB h1
  rw[ArY h1]
  obtain rfl:f=0:=by omega
  have hn1:1<=n:=by omega
  clear h0 h2 h1
  go_enter Tryz.func99,Tryz.ntmps99
  go_wp2_with fail
  refine EN.out.mono ?_;rintro e w1 ⟨rfl,hb1⟩
  have B1:=hid ((X0.out.trans (hb1.mono X0.out.size)).alloc (X0.out.trans (hb1.mono X0.out.size)).size (jC x))
  clear p0 p1 p2 p3 p4 p5 hb1 EN
  go_wp2_with fail
  go_loopw [9,10] (λv i wr=>∃ k:Nat,k+1<=n/\i=.int .i64 ((k+1:Nat):Int)/\AeC w wr v (eT s k)) (λ_ i _=>n-(intOf i).toNat)
  case atStart=>exact⟨0,hn1,rfl,B1.out,World.ownsRow_nil _ _ _ _⟩
  case round =>
   clear B1
   obtain⟨k,hk,rfl,hS⟩:=hrel
   have HS:=hid hS
   have hS1:=hS.1.size
   have hlen:=pA s k
   clear hS
   by_cases hlt:k+1<n
   ·have d1:decide (((k+1:Nat):Int)<(n:Int))=true:=aC (by omega)
    have HN:=hid (mB s k)
    have HX:=hid ((AtB wr).alloc (ArR _) (jB ⟨s,0,((k+1:Nat):Int)⟩))
    have NW:=hid (uG wr ⟨s,0,((k+1:Nat):Int)⟩ rfl)
    have OW:=hid (aA HS.out.2 HX.out)
    go_wp2_with (at_builtin;refine aG aE _ rfl (.tmp 35) (.tmp 39) 86 rfl w.heap.size 129 i0 _ 24 Tryz.underlying86 hi hz0 hz1 hz2 rfl _ _ _ rfl OW.out (some ⟨wr.heap.size,0,none⟩) 1 1 [⟨s,0,((k+1:Nat):Int)⟩] rfl (by decide) rfl NW.out (by omega) (by omega) (by simp;omega) ?_;intro g1 cap1 w3 hown1 hg1 hb1)
    have H3:=hid (show AeC w w3 (.slice (some ⟨g1,0,none⟩) (k+1) cap1) (eT s (k+1)) from by
     refine⟨(HS.out.1.trans (HX.out.mono HS.out.1.size)).grown hg1 (ArS HS.out.1.size HX.out.size) (λb hb=>(OW.out.lt b hb).1),?_⟩
     rw[hlen] at hown1
     rw[HN.out,aE.all_append,ArV,hlen]
     exact hown1)
    clear hown1 hg1 hb1
    go_wp2
    go_roundw
    case rel=>exact⟨k+1,by omega,by go_num,H3.out⟩
    case measure=>simp[intOf];omega
   have d1:decide (((k+1:Nat):Int)<(n:Int))=false:=aB (by omega)
   obtain rfl:n=k+1:=by omega
   obtain⟨-,B,cp,rfl,-,hR⟩:=Lies.Row.of_own HS.out.2
   have HR:=hid hR
   clear hR
   go_wp2
   go_ret
   exact⟨B,cp,rfl,HR.out,HS.out.1⟩
 --]
end Go.Proofs.YtjofpclmbjpgjaaGreat
namespace Go.Proofs.YtjofpclmbjpgjaaGreat.Cr
open Lib (hid)
open Go Pl Wk
section
variable {p : Plan} {i e : Nat} {nm : Nm} {s0 : Sec} (hs : p.secs[i]?=some s0) (he : e < 3)
include hs
include he
end
theorem mC {p:Plan} {b:Int}:∀ {t:List Stp} {s f:Int} {st:List Stp} {e:Int},Chain p b s f st t e->∀ y∈t,within st y.s=false/\y.s≠b
 | [],_,_,_,_,h,_,_=>by unfold Chain at h;exact h.elim
 | x :: t,s,f,st,e,h,y,hy=>by
   unfold Chain at h
   obtain⟨⟨h1,h2,h3⟩,h4⟩:=h
   rcases AsN.1 hy with rfl|hy
   ·rw[outs_sec h3];exact⟨h2,h1⟩
   rcases h4 with ⟨-,rfl,-⟩|⟨-,h4⟩
   ·cases hy
   obtain⟨g1,g2⟩:=mC h4 y hy
   unfold within at g1 ⊢
   rw[List.any_append,Bool.or_eq_false_iff] at g1
   exact⟨g1.1,g2⟩
theorem chain_head {p:Plan} {b:Int} {x:Stp} {t:List Stp} {s f:Int} {st:List Stp} {e:Int} (h:Chain p b s f st (x :: t) e):∀ y∈t,y.s≠x.s:=λy hy he=>by
 unfold Chain at h
 obtain⟨-,h4⟩:=h
 rcases h4 with ⟨-,rfl,-⟩|⟨-,h4⟩
 ·cases hy
 have:=(mC h4 y hy).1
 unfold within at this
 rw[List.any_append,Bool.or_eq_false_iff] at this
 have h2:=this.2
 rw[List.any_cons,Bool.or_eq_false_iff] at h2
 exact absurd he.symm (of_decide_eq_false h2.1)
section
variable {p : Plan} {i e : Nat} {nm : Nm} {s0 : Sec} (hs : p.secs[i]?=some s0) (he : e < 3)
include hs he
omit hs he in
end
end Go.Proofs.YtjofpclmbjpgjaaGreat.Cr
