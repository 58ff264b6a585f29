/- Lemmas. -/
import Derived.Test.YtjofpclmbjpgjaaGreatMk11
import Derived.Laws.OwnMore
set_option maxHeartbeats 8000000
set_option maxRecDepth 100000
namespace Go.Proofs.YtjofpclmbjpgjaaGreat
open Lib (hid)
open Go.RowKit
structure WayM where
 A:Option Addr
 c:Nat
 way:Cr.Way
def dD:Lies WayM:=⟨2,by decide,λm=>[.slice m.A m.way.steps.length m.c,.int .i64 m.way.exit],λ_=>rfl,λy u hu=>by
 simp at hu
 rcases hu with rfl|rfl <;> rfl⟩
theorem AlB {w:World} {b o:Nat} {m:WayM} (h:dD.On w b o m):w.cell? ⟨b,o,none⟩=some (.slice m.A m.way.steps.length m.c)/\w.cell? ⟨b,o+1,none⟩=some (.int .i64 m.way.exit) :=
 ⟨h 0 _ rfl,h 1 _ rfl⟩
def WaysIn (w:World) (A:Option Addr) (L:List Cr.Way):Prop:=∃ M:List WayM,M.map WayM.way=L/\dD.Row w A M/\∀ m∈M,aE.Row w m.A m.way.steps/\m.way.steps.length<=m.c
theorem WaysIn.nil (w:World) (A:Option Addr):WaysIn w A []:=⟨[],rfl,.inl rfl,λ_ h=>(by cases h)⟩
theorem WaysIn.below {w w':World} {A:Option Addr} {L:List Cr.Way} (h:WaysIn w A L) (hb:Below w.heap.size w w'):WaysIn w' A L:=by
 obtain⟨M,h1,h2,h3⟩:=h
 exact⟨M,h1,h2.below rfl hb,λm hm=>⟨(h3 m hm).1.below rfl hb,(h3 m hm).2⟩⟩
theorem WaysIn.at {w:World} {A:Option Addr} {L:List Cr.Way} (h:WaysIn w A L) {k:Nat} {y:Cr.Way} (hk:L[k]?=some y):∃ b o S d,A=some ⟨b,o,none⟩/\b<w.heap.size/\w.cell? ⟨b,o+k*2,none⟩=some (.slice S y.steps.length d)/\w.cell? ⟨b,o+k*2+1,none⟩=some (.int .i64 y.exit)/\aE.Row w S y.steps/\y.steps.length<=d:=by
 obtain⟨M,rfl,h2,h3⟩:=h
 rw[List.getElem?_map] at hk
 cases hm:M[k]? with
 | none=>rw[hm] at hk;cases hk
 | some m =>
   rw[hm] at hk
   obtain rfl:m.way=y:=AsO hk
   obtain⟨hlt,hmk⟩:=ArM hm
   obtain⟨b,o,hA,hb,on⟩:=h2.at hlt
   rw[hmk] at on
   obtain⟨c0,c1⟩:=AlB on
   exact⟨b,o,m.A,m.c,hA,hb,c0,c1,h3 m (ArX hm)⟩
def OwnS (base:Nat) (w:World) (A:Option Addr) (c:Nat) (L:List Wk.Stp):Prop:=w.ownsRow base 129 3 (.slice A L.length c) L.length (aE.all L)
theorem OwnS.row {base:Nat} {w:World} {A:Option Addr} {c:Nat} {L:List Wk.Stp} (h:OwnS base w A c L):aE.Row w A L:=by
 obtain⟨-,B,d,hv,-,hR⟩:=Lies.Row.of_own (E:=aE) h
 cases hv
 exact hR
theorem OwnS.cap {base:Nat} {w:World} {A:Option Addr} {c:Nat} {L:List Wk.Stp} (h:OwnS base w A c L):L.length<=c:=by
 obtain⟨-,B,d,hv,hc,-⟩:=Lies.Row.of_own (E:=aE) h
 cases hv
 exact hc
structure Tame (tH tW:TypeId) (w w':World):Prop where
 os:w'.os=w.os
 tape:w'.tape=w.tape
 output:w'.output=w.output
 size:w.heap.size<=w'.heap.size
 block:∀ (b:Nat) (cs:Array Value) (t:TypeId) (fr:Nat × Nat),w.heap[b]?=some (Obj.cells cs t fr)->t≠tH->t≠tW->w'.heap[b]?=some (Obj.cells cs t fr)
theorem Tame.refl (tH tW:TypeId) (w:World):Tame tH tW w w:=⟨rfl,rfl,rfl,ArR _,λ_ _ _ _ h _ _=>h⟩
theorem Tame.trans {tH tW:TypeId} {a b c:World} (h:Tame tH tW a b) (h':Tame tH tW b c):Tame tH tW a c :=
 ⟨h'.os.trans h.os,h'.tape.trans h.tape,h'.output.trans h.output,ArS h.size h'.size,λk cs t fr hk h1 h2=>h'.block k cs t fr (h.block k cs t fr hk h1 h2) h1 h2⟩
theorem Below.tame {w w':World} (h:Below w.heap.size w w') (tH tW:TypeId):Tame tH tW w w' :=
 ⟨h.os,h.tape,h.output,h.size,λb cs t fr hb _ _=>by rw[h.block b (ArL hb).1];exact hb⟩
theorem aX {tH tW:TypeId} {w w':World} {base:Nat} {e:TypeId} {size:Nat} {v:Value} {n:Nat} {xs:List Value} (h:w.ownsRow base e size v n xs) (ht:Tame tH tW w w') (h1:e≠tH) (h2:e≠tW):w'.ownsRow base e size v n xs:=by
 refine⟨h.1,?_⟩
 rcases h.2 with hn|⟨g,cap,cur,rfl,hb,hg,rest⟩
 ·exact .inl hn
 exact .inr ⟨g,cap,cur,rfl,hb,ht.block g cur e (0,0) hg h1 h2,rest⟩
theorem iA {w:World} {base base':Nat} {e e':TypeId} {size size':Nat} {v v':Value} {n n':Nat} {xs xs':List Value} (h:w.ownsRow base e size v n xs) (h':w.ownsRow base' e' size' v' n' xs') (he:e≠e') (b:Nat) (hb:v.ownBlock=some b):v'.ownBlock≠some b:=λhb'=>by
 rcases h.2 with ⟨rfl,-⟩|⟨g,cap,cur,rfl,-,hg,-⟩
 ·cases hb
 rcases h'.2 with ⟨rfl,-⟩|⟨g',cap',cur',rfl,-,hg',-⟩
 ·cases hb'
 obtain rfl:g=b:=AsO hb
 obtain rfl:g'=g:=AsO hb'
 rw[hg] at hg'
 cases hg'
 exact he rfl
theorem fG {w:World} {base:Nat} {e t:TypeId} {size:Nat} {v:Value} {n:Nat} {xs:List Value} {g:Nat} {cs:Array Value} (h:w.ownsRow base e size v n xs) (hg:w.heap[g]?=some (.cells cs t (0,0))) (he:e≠t):v.ownBlock≠some g:=λhb=>by
 rcases h.2 with ⟨rfl,-⟩|⟨g',cap,cur,rfl,-,hg',-⟩
 ·cases hb
 obtain rfl:g'=g:=AsO hb
 rw[hg] at hg'
 cases hg'
 exact he rfl
theorem AlC {α:Type} {L M:List α} (hl:L.length=M.length) (h:∀ j<L.length,L[j]?=M[j]?):L=M:=by
 apply List.ext_getElem?
 intro i
 by_cases hi:i<L.length
 ·exact h i hi
 rw[List.getElem?_eq_none (by omega),List.getElem?_eq_none (by omega)]
theorem pB (L M:List Wk.Stp) (A:Option Addr) (c:Nat) (B:Option Addr) (d:Nat) (w:World) (hA:aE.Row w A L) (hB:aE.Row w B M) (hl:L.length<=100000) :
 Calls Tryz.prog 40 #[.slice A L.length c,.slice B M.length d] w λe w'=>e=.returned (.bool (decide (L=M)))/\Below w.heap.size w w':=by
 --[
 by_cases hlen:L.length=M.length
 ·have IA := hid hA
  have IB:=hid hB
  have HL:=hid hlen
  rw[<-hlen]
  clear hA hB hlen
  go_enter Tryz.func40,Tryz.ntmps40
  go_wp2_with fail
  go_loopw [5] (λi wr=>∃ k:Nat,k<=L.length/\i=.int .i64 k/\Below w.heap.size w wr/\∀ j<k,L[j]?=M[j]?) (λi _=>L.length-(intOf i).toNat)
  case atStart=>exact⟨0,AsD _,rfl,Below.refl _ _,λj hj=>absurd hj (Nat.not_lt_zero _)⟩
  case round =>
   obtain⟨k,hk,rfl,hB,h0⟩:=hrel
   have HB:=hid hB
   have H0:=hid h0
   clear hB h0
   by_cases hlt:k<L.length
   ·have hs:=ArN hlt
    have ht:=ArN (show k<M.length by have:=HL.out;omega)
    obtain⟨b,o,rfl,hb,on⟩:=(IA.out.below rfl HB.out).at hlt
    obtain⟨b',o',rfl,hb',on'⟩:=(IB.out.below rfl HB.out).at (show k<M.length by have:=HL.out;omega)
    generalize L[k]=s at hs on
    generalize M[k]'(by have:=HL.out;omega)=t at ht on'
    obtain⟨a0,a1,a2⟩:=bL on
    obtain⟨c0,c1,c2⟩:=bL on'
    rw[show k*aE.m=k*3 from rfl] at a0 a1 a2 c0 c1 c2
    have HS:=hid hs
    have HT:=hid ht
    clear on on' hs ht
    by_cases he:s=t
    ·have Q:=λW=>(AeB W s t).trans (by rw[decide_eq_true he])
     have N:=hid (λj (hj:j<k+1)=>(show L[j]?=M[j]? from by
      by_cases hjk:j=k
      ·subst hjk
       rw[HS.out,HT.out,he]
      exact H0.out j (by omega)))
     clear he
     go_wp2_with fail
     go_quiet (fail)
     go_wp2
     go_roundw
     case rel=>exact⟨k+1,by omega,by go_num,aH HB.out _,N.out⟩
     case measure=>simp[intOf];omega
    have Q:=λW=>(AeB W s t).trans (by rw[decide_eq_false he])
    have N:=hid (show decide (L=M)=false from decide_eq_false λh=>he (by
     have:=HS.out
     rw[h,HT.out] at this
     exact(AsO this).symm))
    clear he
    go_wp2_with fail
    go_quiet (fail)
    go_wp2
    go_ret
    exact⟨by rw[N.out];rfl,aH HB.out _⟩
   obtain rfl:k=L.length:=by omega
   have N:=hid (show decide (L=M)=true from decide_eq_true (AlC HL.out H0.out))
   go_wp2
   go_ret
   exact⟨by rw[N.out];rfl,HB.out⟩
 ·have D:((L.length:Int) != (M.length:Int))=true:=by
   rw[AsV];omega
  have N:=hid (show decide (L=M)=false from decide_eq_false λh=>hlen (by rw[h]))
  clear hlen hA hB
  go_enter Tryz.func40,Tryz.ntmps40
  go_wp2
  go_ret
  exact⟨by rw[N.out];rfl,Below.refl _ _⟩
 --]
def xR (L:List Wk.Stp) (w:World) (e:Ending) (w':World):Prop:=∃ A c,e=.returned (.slice A L.length c)/\OwnS w.heap.size w' A c L/\Below w.heap.size w w'
theorem rW (w:World) (base:Nat) (L:List Wk.Stp) (hb:base<=w.heap.size) (hl:L.length<=1000):OwnS base (w.alloc (.cells (aE.all L).toArray 129)) (some ⟨w.heap.size,0,none⟩) L.length L:=by
 refine⟨aE.all_len L,.inr ⟨w.heap.size,L.length,(aE.all L).toArray,rfl,hb,AsW _ _,ArR _,by unfold maxLen;omega,?_,?_⟩⟩
 ·rw[List.size_toArray];exact aE.all_len L
 exact AsT (by rw[show L.length*3=(aE.all L).length from(aE.all_len L).symm];exact ArR _)
theorem cT (w:World) (y:Wk.Stp) {g base:Nat} (hg:w.heap.size=g) (hb:base<=g:=by simp):OwnS base (w.alloc (.cells #[.int .i64 y.s,.int .i64 y.f,.int .i64 y.t] 129)) (some ⟨g,0,none⟩) 1 [y]:=hg ▸ rW w base [y] (hg ▸ hb) (by simp)
theorem AnX (w:World) (y z:Wk.Stp) {g base:Nat} (hg:w.heap.size=g) (hb:base<=g:=by simp):OwnS base (w.alloc (.cells #[.int .i64 y.s,.int .i64 y.f,.int .i64 y.t,.int .i64 z.s,.int .i64 z.f,.int .i64 z.t] 129)) (some ⟨g,0,none⟩) 2 [y,z]:=hg ▸ rW w base [y,z] (hg ▸ hb) (by simp)
theorem jE (p:Pl.Plan) (A:Option Addr) (c:Nat) (A':Option Addr) (c':Nat) (s f:Int) (w:World) (h:PlanIn w p A A') :
 Calls Tryz.prog 117 #[aR p A c A' c',.int .i64 s,.int .i64 f] w (xR (Wk.outs p s f) w):=by
 have R0:=AsW w (aD p A c A' c')
 have XX:=(AtB w).alloc (ArR _) (aD p A c A' c')
 have X0:=hid XX
 obtain⟨⟨-,-,-,-,p4,-⟩,-,gp⟩:=row6 R0
 have HI:=hid (h.below XX)
 clear R0 XX h
 rcases Wk.sec_ways p s with ⟨hs,hn⟩|⟨k,rfl,⟨hk,hn⟩|⟨x,hx,hn⟩⟩
 ·have D:decide (s<0)=true:=aC hs
  have E:Wk.outs p s f=[]:=by unfold Wk.outs;rw[hn]
  rw[E]
  clear hs hn E
  go_enter Tryz.func117,Tryz.ntmps117
  go_wp2
  go_ret
  exact⟨none,0,rfl,World.ownsRow_nil _ _ _ _,X0.out⟩
 ·have D0:decide ((k:Int)<0)=false:=aB (by omega)
  have D1:decide ((p.secs.length:Int)<=(k:Int))=true:=aC (by omega)
  have E:Wk.outs p k f=[]:=by unfold Wk.outs;rw[hn]
  rw[E]
  clear hn E
  go_enter Tryz.func117,Tryz.ntmps117
  go_wp2
  go_ret
  exact⟨none,0,rfl,World.ownsRow_nil _ _ _ _,X0.out⟩
 have hlt:k<p.secs.length:=(ArM hx).1
 have D0:decide ((k:Int)<0)=false:=aB (by omega)
 have D1:decide ((p.secs.length:Int)<=(k:Int))=false:=aB (by omega)
 have N1:¬ p.secs.length<=k:=by omega
 obtain⟨b,o,rfl,hb,on⟩:=bQ HI.out.1 hx
 obtain⟨-,a1,-⟩:=bE on
 have E:Wk.outs p k f=if x.pt then(if f=0 then [⟨k,0,1⟩,⟨k,0,2⟩] else if f=1∨f=2 then [⟨k,f,0⟩] else []) else if f=0∨f=1 then [⟨k,f,1-f⟩] else []:=by unfold Wk.outs;rw[hn]
 rw[E]
 have X1:=hid (X0.out.alloc X0.out.size)
 clear hn on hx E
 cases hpt:x.pt
 ·rw[hpt] at a1
  rw[ArY (by decide)]
  clear hpt
  by_cases h0:f=0
  ·subst h0
   rw[ArZ (.inl rfl)]
   go_enter Tryz.func117,Tryz.ntmps117
   go_wp2
   go_ret
   exact⟨_,_,rfl,cT (w.alloc (aD p (some ⟨b,o,none⟩) c A' c')) ⟨k,0,1⟩ (by simp),X1.out _⟩
  by_cases h1:f=1
  ·subst h1
   rw[ArZ (.inr rfl)]
   clear h0
   go_enter Tryz.func117,Tryz.ntmps117
   go_wp2
   go_ret
   exact⟨_,_,rfl,cT (w.alloc (aD p (some ⟨b,o,none⟩) c A' c')) ⟨k,1,0⟩ (by simp),X1.out _⟩
  have d0:(f == 0)=false:=by rw[ArU];exact h0
  have d1:(f == 1)=false:=by rw[ArU];exact h1
  rw[ArY (by omega)]
  clear h0 h1
  go_enter Tryz.func117,Tryz.ntmps117
  go_wp2
  go_ret
  exact⟨none,0,rfl,World.ownsRow_nil _ _ _ _,X0.out⟩
 rw[hpt] at a1
 rw[ArZ rfl]
 clear hpt
 by_cases h0:f=0
 ·subst h0
  rw[ArZ rfl]
  go_enter Tryz.func117,Tryz.ntmps117
  go_wp2
  go_ret
  exact⟨_,_,rfl,AnX (w.alloc (aD p (some ⟨b,o,none⟩) c A' c')) ⟨k,0,1⟩ ⟨k,0,2⟩ (by simp),X1.out _⟩
 rw[ArY h0]
 by_cases h1:f=1
 ·subst h1
  rw[ArZ (.inl rfl)]
  clear h0
  go_enter Tryz.func117,Tryz.ntmps117
  go_wp2
  go_ret
  exact⟨_,_,rfl,cT (w.alloc (aD p (some ⟨b,o,none⟩) c A' c')) ⟨k,1,0⟩ (by simp),X1.out _⟩
 by_cases h2:f=2
 ·subst h2
  rw[ArZ (.inr rfl)]
  clear h0 h1
  go_enter Tryz.func117,Tryz.ntmps117
  go_wp2
  go_ret
  exact⟨_,_,rfl,cT (w.alloc (aD p (some ⟨b,o,none⟩) c A' c')) ⟨k,2,0⟩ (by simp),X1.out _⟩
 have d0:(f == 0)=false:=by rw[ArU];exact h0
 have d1:(f == 1)=false:=by rw[ArU];exact h1
 have d2:(f == 2)=false:=by rw[ArU];exact h2
 rw[ArY (by omega)]
 clear h0 h1 h2
 go_enter Tryz.func117,Tryz.ntmps117
 go_wp2
 go_ret
 exact⟨none,0,rfl,World.ownsRow_nil _ _ _ _,X0.out⟩
theorem aM {P:Program} {w:World} {ops:Array Oper} {o:Oper} {a:Act} {K:Act->World->Prop} {Q:Exit->Act->World->Prop} {E:Prop} (hgd:o.guard=none) (s x:Operand) (t:TypeId)
 (ho:o.op=.call { callee:=.builtin .append,args:=#[s,x],argTypes:=#[t,t] })
 (base:Nat) (e:TypeId) (i:TypeInfo) (z:Value) (size bytes:Nat) (ht:P.underlying t=some (.slice e)) (hi:P.info? e=some i) (hz:i.zero=some z)
 (hsize:i.size=size) (hby:i.bytes=bytes) (hzs:z.cells.size=size) (hsz:0<size)
 (v:Value) (n:Nat) (xs:List Value) (hs:a.eval s=v) (hown:w.ownsRow base e size v n xs)
 (base2:Nat) (u:Value) (m:Nat) (ys:List Value) (hx:a.eval x=u) (hou:w.ownsRow base2 e size u m ys) (hys:∀ y∈ys,y.oneCell'=true) (hlen:n+m<=maxLen) (hbytes:(n+m)*bytes<=140737488355328) (hbase:base<=w.heap.size) (hnil:m=0->u=.slice none 0 0)
 (h:∀ v' w',w'.ownsRow base e size v' (n+m) (xs++ys)->w.grownBy w' v.ownBlock->K (a.put o.dst v') w') :
 if Region.wanted o (yielded ops a.tmps)=true then Oper.wp P o a w K Q else E:=by
 have hl:=hou.1
 rcases hou.2 with ⟨rfl,rfl⟩|⟨g,cap,cur,rfl,hb2,hg2,hcap,hmax,hcs,htk⟩
 ·have h0:ys=[]:=AsR (by rw[hl,Nat.zero_mul])
  subst h0
  have hw:Region.wanted o (yielded ops a.tmps)=true:=by simp[Region.wanted,hgd]
  rw[ArZ hw]
  have hrun:=run_append_owned_none (P:=P) (w:=w) base t o.type e i size ht hi v n xs hown
  unfold Oper.wp
  simp[execOp,ho,resolve,invoke,builtin,hs,hx,hrun,Result.andThen]
  exact h v w (by rw[AsM];exact hown) (World.grownBy.refl w _)
 rcases Nat.eq_zero_or_pos m with rfl|hm
 ·cases hnil rfl
 exact step_append_lies w hgd s x t ho base e i z size bytes ht hi hz hsize hby hzs hsz v n xs hs hown ⟨g,0,none⟩ m cap ys hx hl (λj y hj=>hou.cells (g:=g) rfl j y hj) hys hm hlen hbytes hbase _ rfl λg' cap' w' h1 h2 _ _=>h _ w' h1 h2
theorem bV {P:Program} {w:World} (base:Nat) (t ty e:TypeId) (i:TypeInfo) (size:Nat) (ht:P.underlying t=some (.slice e)) (hi:P.info? e=some i)
 (v:Value) (n:Nat) (xs:List Value) (hown:w.ownsRow base e size v n xs) (A:Option Addr) (c:Nat) :
 (Builtin.append_ #[t,t] ty #[v,.slice A 0 c]).run P w=.ok v w:=by
 rcases hown.2 with ⟨rfl,rfl⟩|⟨g,cap,cur,rfl,_,_,hnc,_⟩
 ·cases A <;> simp[Builtin.append_,run_underlying ht,Go.sizeOf,typeInfo,hi,Builtin.lenOf,Builtin.firstCells,loadCells,loadCellsFrom]
 cases A <;> simp[Builtin.append_,run_underlying ht,Go.sizeOf,typeInfo,hi,Builtin.lenOf,Builtin.firstCells,hnc,storeCells,loadCells,loadCellsFrom]
theorem aK {α:Type} (E:Lies α) {P:Program} {w:World} {ops:Array Oper} {o:Oper} {a:Act} {K:Act->World->Prop} {Q:Exit->Act->World->Prop} {Z:Prop} (hgd:o.guard=none) (s x:Operand) (t:TypeId)
 (ho:o.op=.call { callee:=.builtin .append,args:=#[s,x],argTypes:=#[t,t] })
 (base:Nat) (e:TypeId) (i:TypeInfo) (z:Value) (bytes:Nat) (ht:P.underlying t=some (.slice e)) (hi:P.info? e=some i) (hz:i.zero=some z)
 (hsize:i.size=E.m) (hby:i.bytes=bytes) (hzs:z.cells.size=E.m)
 (v:Value) (n:Nat) (xs:List Value) (hs:a.eval s=v) (hown:w.ownsRow base e E.m v n xs)
 (A:Option Addr) (m c:Nat) (L:List α) (hx:a.eval x=.slice A m c) (hL:L.length=m) (hI:E.Row w A L) (hn:n+m<=maxLen) (hbytes:(n+m)*bytes<=140737488355328) (hbase:base<=w.heap.size)
 (h:∀ v' w',w'.ownsRow base e E.m v' (n+m) (xs++E.all L)->w.grownBy w' v.ownBlock->K (a.put o.dst v') w') :
 if Region.wanted o (yielded ops a.tmps)=true then Oper.wp P o a w K Q else Z:=by
 subst hL
 rcases Nat.eq_zero_or_pos L.length with h0|h0
 ·have hw:Region.wanted o (yielded ops a.tmps)=true:=by simp[Region.wanted,hgd]
  rw[ArZ hw]
  obtain rfl:L=[]:=AsR h0
  have hrun:=bV (P:=P) (w:=w) base t o.type e i E.m ht hi v n xs hown A c
  unfold Oper.wp
  simp[execOp,ho,resolve,invoke,builtin,hs,hx,hrun,Result.andThen]
  exact h v w (by rw[show E.all []=[] from rfl,AsM];exact hown) (World.grownBy.refl w _)
 rcases hI with hI|⟨b,off,rfl,_,hI⟩
 ·subst hI;simp at h0
 exact step_append_lies w hgd s x t ho base e i z E.m bytes ht hi hz hsize hby hzs E.pos v n xs hs hown ⟨b,off,none⟩ L.length c (E.all L) hx (E.all_len L) (Lies.news hI) (E.all_single L) h0 hn hbytes hbase _ rfl λg' cap' w' h1 h2 _ _=>h _ w' h1 h2
theorem aZ {α:Type} (E:Lies α) {P:Program} {w:World} {ops:Array Oper} {rest:List Oper} {o:Oper} {a:Act} {Q:Exit->Act->World->Prop} (hw:Region.wanted o (yielded ops a.tmps)=true) (s x:Operand) (t:TypeId)
 (ho:o.op=.call { callee:=.builtin .append,args:=#[s,x],argTypes:=#[t,t] })
 (base:Nat) (e:TypeId) (i:TypeInfo) (z:Value) (bytes:Nat) (ht:P.underlying t=some (.slice e)) (hi:P.info? e=some i) (hz:i.zero=some z)
 (hsize:i.size=E.m) (hby:i.bytes=bytes) (hzs:z.cells.size=E.m)
 (v:Value) (n:Nat) (xs:List Value) (hs:a.eval s=v) (hown:w.ownsRow base e E.m v n xs)
 (A:Option Addr) (m c:Nat) (L:List α) (hx:a.eval x=.slice A m c) (hL:L.length=m) (hI:E.Row w A L) (hn2:n+m<=1000000000) (hbytes:(n+m)*bytes<=140737488355328) (hbase:base<=w.heap.size)
 (h:∀ v' w',w'.ownsRow base e E.m v' (n+m) (xs++E.all L)->w.grownBy w' v.ownBlock->wpList P ops Q rest (a.put o.dst v') w'):wpList P ops Q (o :: rest) a w:=by
 subst hL
 rcases Nat.eq_zero_or_pos L.length with h0|h0
 ·obtain rfl:L=[]:=AsR h0
  have hrun:=bV (P:=P) (w:=w) base t o.type e i E.m ht hi v n xs hown A c
  refine BigFrame.wpList_want hw λ_ hK=>?_
  unfold Oper.wp
  simp[execOp,ho,resolve,invoke,builtin,hs,hx,hrun,Result.andThen]
  exact hK _ _ (h v w (by rw[show E.all []=[] from rfl,AsM];exact hown) (World.grownBy.refl w _))
 exact aG E w hw s x t ho base e i z bytes ht hi hz hsize hby hzs v n xs hs hown A c L.length L rfl h0 hx hI hn2 hbytes hbase λg' cap' w' h1 h2 _=>h _ w' h1 h2
def aF:Lies Int:=⟨1,by decide,λx=>[.int .i64 x],λ_=>rfl,λy u hu=>by
 simp at hu
 subst hu;rfl⟩
theorem eU {w:World} {b o:Nat} {x:Int} (h:aF.On w b o x):w.cell? ⟨b,o,none⟩=some (.int .i64 x):=h 0 _ rfl
def ints (l:List Nat):List Int:=l.map λ(s:Nat)=>(s:Int)
theorem xS (l:List Nat):(ints l).length=l.length:=AsH ..
theorem rX (l:List Nat) (s:Nat):ints (l++[s])=ints l++[(s:Int)]:=by unfold ints;rw[List.map_append];rfl
theorem fT:(Tryz.prog.info? 3).map (λi=>(i.zero,i.size,i.bytes))=some (some (.int .i64 0),1,8):=by kernel_rfl
def NumsOr (A:Option Addr) (L0 L:List Int) (w:World) (e:Ending) (w':World):Prop:=∃ B d,e=.returned (.slice B L.length d)/\aF.Row w' B L/\L.length<=d/\Below w.heap.size w w'/\((B=A/\L=L0)∨∀ a,B=some a->w.heap.size<=a.block)
def aJ:Lies Dm.Dem:=⟨2,by decide,λx=>[.int .i64 x.pt,.int .i64 x.pos],λ_=>rfl,λy u hu=>by
 simp at hu
 rcases hu with rfl|rfl <;> rfl⟩
theorem eV {w:World} {b o:Nat} {x:Dm.Dem} (h:aJ.On w b o x):w.cell? ⟨b,o,none⟩=some (.int .i64 x.pt)/\w.cell? ⟨b,o+1,none⟩=some (.int .i64 x.pos) :=
 ⟨h 0 _ rfl,h 1 _ rfl⟩
abbrev AbN (x:Dm.Dem):Value:=.agg #[.int .i64 x.pt,.int .i64 x.pos]
abbrev kA (x:Dm.Dem):Obj:=.cells #[.int .i64 x.pt,.int .i64 x.pos] 138
def OwnDm (base:Nat) (w:World) (A:Option Addr) (c:Nat) (L:List Dm.Dem):Prop:=w.ownsRow base 138 2 (.slice A L.length c) L.length (aJ.all L)
theorem OwnDm.row {base:Nat} {w:World} {A:Option Addr} {c:Nat} {L:List Dm.Dem} (h:OwnDm base w A c L):aJ.Row w A L:=by
 obtain⟨-,B,d,hv,-,hR⟩:=Lies.Row.of_own (E:=aJ) h
 cases hv
 exact hR
theorem xT (w:World) (base:Nat) (L:List Dm.Dem) (hb:base<=w.heap.size) (hl:L.length<=1000):OwnDm base (w.alloc (.cells (aJ.all L).toArray 138)) (some ⟨w.heap.size,0,none⟩) L.length L:=by
 refine⟨aJ.all_len L,.inr ⟨w.heap.size,L.length,(aJ.all L).toArray,rfl,hb,AsW _ _,ArR _,by unfold maxLen;omega,?_,?_⟩⟩
 ·rw[List.size_toArray];exact aJ.all_len L
 show List.take _ (aJ.all L)=_
 exact AsT (Nat.le_of_eq (aJ.all_len L))
theorem AgY (w:World) (y:Dm.Dem) {g base:Nat} (hg:w.heap.size=g) (hb:base<=g:=by simp):OwnDm base (w.alloc (kA y)) (some ⟨g,0,none⟩) 1 [y]:=hg ▸ xT w base [y] (hg ▸ hb) (by simp)
theorem gM (w:World) {g base:Nat} (hg:w.heap.size=g) (hb:base<=g:=by simp):(w.alloc (.cells #[] 138)).ownsRow base 138 2 (.slice (some ⟨g,0,none⟩) 0 0) 0 []:=by
 subst hg
 exact⟨rfl,.inr ⟨w.heap.size,0,#[],rfl,hb,AsW _ _,ArR _,by unfold maxLen;omega,rfl,rfl⟩⟩
def DemsYes (L:List Dm.Dem) (w:World) (e:Ending) (w':World):Prop:=∃ B d,e=.returned (.slice B L.length d)/\aJ.Row w' B L/\L.length<=d/\Below w.heap.size w w'
theorem DemsYes.of_own {L:List Dm.Dem} {w w':World} {base n:Nat} {v:Value} (h:w'.ownsRow base 138 aJ.m v n (aJ.all L)) (hn:n=L.length) (hb:Below w.heap.size w w'):DemsYes L w (.returned v) w':=by
 subst hn
 obtain⟨-,B,d,rfl,hc,hR⟩:=Lies.Row.of_own (E:=aJ) h
 exact⟨B,d,rfl,hR,hc,hb⟩
theorem nO:(Tryz.prog.info? 138).map (λi=>(i.zero,i.size,i.bytes))=some (some (.agg #[.int .i64 0,.int .i64 0]),2,16):=by kernel_rfl
namespace Lies
variable {α : Type} (E : Lies α)
theorem Row.take {w:World} {A:Option Addr} {L:List α} (h:E.Row w A L) (k:Nat):E.Row w A (L.take k):=by
 rcases h with rfl|⟨b,o,hA,hb,h⟩
 ·exact .inl List.take_nil
 refine .inr ⟨b,o,hA,hb,λj y hj=>h j y ?_⟩
 rw[List.getElem?_take] at hj
 split at hj
 ·exact hj
 cases hj
theorem Row.drop {w:World} {b o:Nat} {L:List α} (h:E.Row w (some ⟨b,o,none⟩) L) (k:Nat):E.Row w (some ⟨b,o+k*E.m,none⟩) (L.drop k):=by
 rcases h with rfl|⟨b',o',hA,hb,h⟩
 ·exact .inl List.drop_nil
 cases hA
 refine .inr ⟨b,o+k*E.m,rfl,hb,λj y hj=>?_⟩
 rw[List.getElem?_drop] at hj
 have:=h (k+j) y hj
 rwa [Nat.add_mul,<-Nat.add_assoc] at this
theorem Row.low {E:Lies α} {w:World} {A:Option Addr} {L:List α} (h:E.Row w A L) {c:Nat} (hc:L.length<=c) (j:Nat):E.Row w (if c=j then A else Option.map (λx=>x.add (j*E.m)) A) (L.drop j):=by
 rcases h with rfl|⟨b,o,rfl,hb,h⟩
 ·exact .inl List.drop_nil
 by_cases e:c=j
 ·exact .inl (List.drop_eq_nil_of_le (by omega))
 rw[ArY e,Option.map_some,Go.WideShapes.add_plain]
 exact Row.drop E (.inr ⟨b,o,rfl,hb,h⟩) j
theorem Row.low' {E:Lies α} {w:World} {b o:Nat} {L:List α} (h:E.Row w (some ⟨b,o,none⟩) L) {c:Nat} (hc:L.length<=c) (j:Nat):E.Row w (if c=j then some ⟨b,o,none⟩ else some ⟨b,o+j*E.m,none⟩) (L.drop j):=by
 have:=h.low hc j
 rwa [Option.map_some,Go.WideShapes.add_plain] at this
theorem row_lone {w:World} {g:Nat} {x:α} {t:TypeId} (h:w.heap[g]?=some (.cells (E.enc x).toArray t (0,0))):E.Row w (some ⟨g,0,none⟩) [x]:=by
 refine .inr ⟨g,0,rfl,(ArL h).1,λk y hk j u hu=>?_⟩
 cases k with
 | succ k=>simp at hk
 | zero =>
   obtain rfl:x=y:=by simpa using hk
   rw[Nat.zero_mul,Nat.add_zero,Nat.zero_add,AsY w g j _ t _ h,List.getElem?_toArray,hu]
end Lies
theorem pC (w:World) (t:TypeId) (size:Nat) {g base:Nat} (hg:w.heap.size=g) (hb:base<=g):(w.alloc (.cells #[] t)).ownsRow base t size (.slice (some ⟨g,0,none⟩) 0 0) 0 []:=by
 subst hg
 exact⟨by simp,.inr ⟨w.heap.size,0,#[],rfl,hb,AsW _ _,ArR _,by unfold maxLen;omega,by simp,by simp⟩⟩
end Go.Proofs.YtjofpclmbjpgjaaGreat
