/- Lemmas. -/
import Derived.Test.YtjofpclmbjpgjaaGreatMk05
import Derived.Deep.AppendSrc
import Derived.Deep.OwnRows
import Derived.Deep.RegionLaw
import Derived.Sort.Walk0
set_option maxHeartbeats 8000000
set_option maxRecDepth 100000
namespace Go.Proofs.YtjofpclmbjpgjaaGreat
open Lib (hid)
open Go.RowKit
structure Lies (α:Type) where
 m:Nat
 pos:0<m
 enc:α->List Value
 len:∀ y,(enc y).length=m
 one:∀ y,∀ u∈enc y,u.oneCell'=true
section
variable {α : Type} (E : Lies α)
def Lies.all (L:List α):List Value:=L.flatMap E.enc
theorem Lies.all_append (a b:List α):E.all (a++b)=E.all a++E.all b:=by simp[Lies.all]
theorem Lies.all_one (y:α):E.all [y]=E.enc y:=by simp[Lies.all]
theorem Lies.all_cons (y:α) (L:List α):E.all (y :: L)=E.enc y++E.all L:=by simp[Lies.all]
theorem Lies.all_len:∀ L:List α,(E.all L).length=L.length*E.m
 | []=>by simp[Lies.all]
 | y :: L=>by rw[E.all_cons,ArV,Lies.all_len L,E.len,AsJ,Nat.succ_mul];omega
theorem Lies.all_at:∀ (L:List α) (k j:Nat) (y:α),L[k]?=some y->j<E.m->(E.all L)[k*E.m+j]?=(E.enc y)[j]?
 | [],_,_,_,h,_=>by simp at h
 | x :: L,0,j,y,h,hj=>by
   obtain rfl:x=y:=by simpa using h
   rw[E.all_cons,List.getElem?_append_left (by rw[E.len];omega)]
   congr 1;omega
 | x :: L,k+1,j,y,h,hj=>by
   rw[E.all_cons,List.getElem?_append_right (by rw[E.len,Nat.succ_mul];omega),E.len]
   rw[show (k+1)*E.m+j-E.m=k*E.m+j by rw[Nat.succ_mul];omega]
   exact Lies.all_at L k j y (by simpa using h) hj
theorem Lies.all_single (L:List α):∀ u∈E.all L,u.oneCell'=true:=λu hu=>by
 obtain⟨y,_,h⟩:=List.mem_flatMap.1 hu
 exact E.one y u h
def Lies.On (w:World) (b o:Nat) (y:α):Prop:=∀ j v,(E.enc y)[j]?=some v->w.cell? ⟨b,o+j,none⟩=some v
def Lies.Row (w:World) (A:Option Addr) (L:List α):Prop:=L=[]∨∃ b o,A=some ⟨b,o,none⟩/\b<w.heap.size/\∀ k y,L[k]?=some y->E.On w b (o+k*E.m) y
theorem Lies.Row.nil (w:World) (A:Option Addr):E.Row w A []:=.inl rfl
variable {E}
theorem Lies.On.below {w w':World} {b o:Nat} {y:α} {B:Nat} (h:E.On w b o y) (hlt:b<B) (hb:Below B w w'):E.On w' b o y:=λj v hv=>by
 rw[hb.cell (show (⟨b,o+j,none⟩:Addr).block<B from hlt)];exact h j v hv
theorem Lies.Row.below {w w':World} {A:Option Addr} {L:List α} {B:Nat} (h:E.Row w A L) (hB:B=w.heap.size) (hb:Below B w w'):E.Row w' A L:=by
 subst hB
 rcases h with h|⟨b,o,hA,hlt,h⟩
 ·exact .inl h
 have:=hb.size
 exact .inr ⟨b,o,hA,by omega,λk y hk=>(h k y hk).below hlt hb⟩
theorem Lies.Row.at {w:World} {A:Option Addr} {L:List α} (h:E.Row w A L) {k:Nat} (hk:k<L.length):∃ b o,A=some ⟨b,o,none⟩/\b<w.heap.size/\E.On w b (o+k*E.m) L[k]:=by
 rcases h with rfl|⟨b,o,hA,hlt,h⟩
 ·simp at hk
 exact⟨b,o,hA,hlt,h k _ (ArN hk)⟩
theorem Lies.Row.of_own {w:World} {base:Nat} {e:TypeId} {v:Value} {n:Nat} {L:List α} (h:w.ownsRow base e E.m v n (E.all L)) :
 n=L.length/\∃ A c,v=.slice A n c/\n<=c/\E.Row w A L:=by
 have hl:L.length=n:=by
  have:=h.1
  rw[E.all_len] at this
  exact Nat.eq_of_mul_eq_mul_right E.pos this
 refine⟨hl.symm,?_⟩
 rcases h.2 with ⟨rfl,rfl⟩|⟨g,cap,cur,rfl,_,hh,hc,_⟩
 ·exact⟨none,0,rfl,ArR _,.inl (AsR hl)⟩
 refine⟨some ⟨g,0,none⟩,cap,rfl,hc,.inr ⟨g,0,rfl,(ArL hh).1,λk y hk j u hu=>?_⟩⟩
 have hj:j<E.m:=by
  have:=(ArM hu).1
  rwa [E.len] at this
 have:=h.cells (g:=g) rfl (k*E.m+j) u (by rw[E.all_at L k j y hk hj];exact hu)
 rw[Go.WideShapes.add_plain] at this
 rw[show 0+k*E.m+j=0+(k*E.m+j) by omega]
 exact this
theorem Lies.own_on {w:World} {base:Nat} {e:TypeId} {g cap n:Nat} {L:List α} (h:w.ownsRow base e E.m (.slice (some ⟨g,0,none⟩) n cap) n (E.all L)) {k:Nat} {y:α} (hk:L[k]?=some y):E.On w g (k*E.m) y:=by
 intro j u hu
 have hj:j<E.m:=by
  have:=(ArM hu).1
  rwa [E.len] at this
 have:=h.cells (g:=g) rfl (k*E.m+j) u (by rw[E.all_at L k j y hk hj];exact hu)
 rw[Go.WideShapes.add_plain] at this
 rwa [Nat.zero_add] at this
theorem Lies.news {w:World} {b o:Nat} {L:List α} (h:∀ k y,L[k]?=some y->E.On w b (o+k*E.m) y):∀ j u,(E.all L)[j]?=some u->w.cell? ((⟨b,o,none⟩:Addr).add j)=some u:=λj u hu=>by
 have hl:=(ArM hu).1
 rw[E.all_len] at hl
 have hp:=E.pos
 have hk:j / E.m<L.length:=(Nat.div_lt_iff_lt_mul hp).2 hl
 have e:=E.all_at L (j / E.m) (j % E.m) _ (ArN hk) (Nat.mod_lt _ hp)
 have hj:j / E.m*E.m+j % E.m=j:=by rw[Nat.mul_comm];exact Nat.div_add_mod j E.m
 rw[hj,hu] at e
 rw[Go.WideShapes.add_plain]
 have:=h (j / E.m) _ (ArN hk) (j % E.m) u e.symm
 rwa [show o+j / E.m*E.m+j % E.m=o+j by omega] at this
theorem Lies.Row.fresh (w:World) (L:List α) (t:TypeId):E.Row (w.alloc (.cells (E.all L).toArray t)) (some ⟨w.heap.size,0,none⟩) L:=by
 refine .inr ⟨w.heap.size,0,rfl,by simp,λk y hk j v hv=>?_⟩
 have hj:j<E.m:=by
  have:=(ArM hv).1
  rwa [E.len] at this
 rw[AsY _ _ _ _ _ _ (AsW w _),List.getElem?_toArray,Nat.zero_add,E.all_at L k j y hk hj]
 exact hv
theorem Lies.set_cell (L:List α) (k j:Nat) (x y:α) (hx:L[k]?=some x) (hj:j<E.m) (u:Value) (hu:(E.enc x).set j u=E.enc y):(E.all L).set (k*E.m+j) u=E.all (L.set k y):=by
 apply List.ext_getElem?
 intro i
 have hkl:=(ArM hx).1
 have hlen:(E.all (L.set k y)).length=(E.all L).length:=by rw[E.all_len,E.all_len,List.length_set]
 by_cases hi:i<L.length*E.m
 ·have hp:=E.pos
  have hk':i / E.m<L.length:=(Nat.div_lt_iff_lt_mul hp).2 hi
  have hi':i / E.m*E.m+i % E.m=i:=by rw[Nat.mul_comm];exact Nat.div_add_mod i E.m
  have hmod:=Nat.mod_lt i hp
  by_cases hik:i / E.m=k
  ·have hik':k*E.m+i % E.m=i:=by rw[<-hik];exact hi'
   have r:(E.all (L.set k y))[i]?=(E.enc y)[i % E.m]?:=by
    have:=E.all_at (L.set k y) k (i % E.m) y (by rw[List.getElem?_set_self hkl]) hmod
    rwa [hik'] at this
   rw[r,<-hu]
   by_cases hij:i % E.m=j
   ·rw[hij,List.getElem?_set_self (by rw[E.len];exact hj)]
    rw[show k*E.m+j=i by rw[<-hij];exact hik']
    rw[List.getElem?_set_self (by rw[E.all_len];exact hi)]
   rw[List.getElem?_set_ne (by omega),List.getElem?_set_ne (by omega)]
   have:=E.all_at L k (i % E.m) x hx hmod
   rwa [hik'] at this
  rw[List.getElem?_set_ne (λe=>hik (by rw[<-e,Nat.mul_comm,Nat.mul_add_div hp,Nat.div_eq_of_lt hj,Nat.add_zero]))]
  have a:=E.all_at L (i / E.m) (i % E.m) _ (ArN hk') hmod
  have b:=E.all_at (L.set k y) (i / E.m) (i % E.m) L[i / E.m] (by rw[List.getElem?_set_ne (Ne.symm hik)];exact ArN hk') hmod
  rw[hi'] at a b
  rw[a,b]
 rw[List.getElem?_eq_none (by rw[List.length_set,E.all_len];omega),List.getElem?_eq_none (by rw[hlen,E.all_len];omega)]
end
theorem aG {α:Type} (E:Lies α) {P:Program} (w:World) {ops:Array Oper} {rest:List Oper} {o:Oper} {a:Act} {Q:Exit->Act->World->Prop} (hw:Region.wanted o (yielded ops a.tmps)=true) (s x:Operand) (t:TypeId)
 (ho:o.op=.call { callee:=.builtin .append,args:=#[s,x],argTypes:=#[t,t] })
 (base:Nat) (e:TypeId) (i:TypeInfo) (z:Value) (bytes:Nat) (ht:P.underlying t=some (.slice e)) (hi:P.info? e=some i) (hz:i.zero=some z)
 (hsize:i.size=E.m) (hby:i.bytes=bytes) (hzs:z.cells.size=E.m)
 (v:Value) (n:Nat) (xs:List Value) (hs:a.eval s=v) (hown:w.ownsRow base e E.m v n xs)
 (A:Option Addr) (c m:Nat) (L:List α) (hm:L.length=m) (h0:0<m) (hx:a.eval x=.slice A m c) (hI:E.Row w A L) (hn:n+m<=1000000000) (hbytes:(n+m)*bytes<=140737488355328) (hbase:base<=w.heap.size)
 (h:∀ g' cap' w',w'.ownsRow base e E.m (.slice (some ⟨g',0,none⟩) (n+m) cap') (n+m) (xs++E.all L)->w.grownBy w' v.ownBlock->(v.ownBlock=some g'∨g'=w.heap.size)->wpList P ops Q rest (a.put o.dst (.slice (some ⟨g',0,none⟩) (n+m) cap')) w'):wpList P ops Q (o :: rest) a w:=by
 subst hm
 rcases hI with hI|⟨b,off,rfl,_,hI⟩
 ·subst hI;simp at h0
 exact BigFrame.wpList_want hw λ_ hK=>wp_append_lies w s x t ho base e i z E.m bytes ht hi hz hsize hby hzs E.pos _ n xs hs hown ⟨b,off,none⟩ L.length c (E.all L) hx (E.all_len L) (Lies.news hI) (E.all_single L) h0 (by unfold maxLen;omega) hbytes hbase _ rfl
  λg' cap' w' h2 h3 h4 _=>hK _ _ (h g' cap' w' h2 h3 h4)
open Go.RowKit
def aI (s:Pl.Sec):List Value :=
 [.string (txt s.name),.bool s.pt,.int .i64 s.len,.int .i64 s.e0.goes,.int .i64 s.e0.at_,.int .i64 s.e0.sig,.int .i64 s.e1.goes,.int .i64 s.e1.at_,.int .i64 s.e1.sig,.int .i64 s.e2.goes,.int .i64 s.e2.at_,.int .i64 s.e2.sig]
def jT (g:Pl.Sig):List Value:=[.string (txt g.name),.int .i64 g.sec,.int .i64 g.en]
def aQ:Lies Pl.Sec:=⟨12,by decide,aI,λ_=>rfl,λy u hu=>by
 simp[aI] at hu
 rcases hu with rfl|rfl|rfl|rfl|rfl|rfl|rfl|rfl|rfl|rfl|rfl|rfl <;> rfl⟩
def bD:Lies Pl.Sig:=⟨3,by decide,jT,λ_=>rfl,λy u hu=>by
 simp[jT] at hu
 rcases hu with rfl|rfl|rfl <;> rfl⟩
def ApQ:Lies It.Itm:=⟨7,by decide,cells7,bT,iX⟩
theorem bE {w:World} {b o:Nat} {s:Pl.Sec} (h:aQ.On w b o s) :
 w.cell? ⟨b,o,none⟩=some (.string (txt s.name))/\w.cell? ⟨b,o+1,none⟩=some (.bool s.pt)/\w.cell? ⟨b,o+2,none⟩=some (.int .i64 s.len)/\w.cell? ⟨b,o+3,none⟩=some (.int .i64 s.e0.goes)/\w.cell? ⟨b,o+4,none⟩=some (.int .i64 s.e0.at_) /\
  w.cell? ⟨b,o+5,none⟩=some (.int .i64 s.e0.sig)/\w.cell? ⟨b,o+6,none⟩=some (.int .i64 s.e1.goes)/\w.cell? ⟨b,o+7,none⟩=some (.int .i64 s.e1.at_)/\w.cell? ⟨b,o+8,none⟩=some (.int .i64 s.e1.sig) /\
  w.cell? ⟨b,o+9,none⟩=some (.int .i64 s.e2.goes)/\w.cell? ⟨b,o+10,none⟩=some (.int .i64 s.e2.at_)/\w.cell? ⟨b,o+11,none⟩=some (.int .i64 s.e2.sig) :=
 ⟨h 0 _ rfl,h 1 _ rfl,h 2 _ rfl,h 3 _ rfl,h 4 _ rfl,h 5 _ rfl,h 6 _ rfl,h 7 _ rfl,h 8 _ rfl,h 9 _ rfl,h 10 _ rfl,h 11 _ rfl⟩
theorem cF {w:World} {b o:Nat} {g:Pl.Sig} (h:bD.On w b o g):w.cell? ⟨b,o,none⟩=some (.string (txt g.name))/\w.cell? ⟨b,o+1,none⟩=some (.int .i64 g.sec)/\w.cell? ⟨b,o+2,none⟩=some (.int .i64 g.en) :=
 ⟨h 0 _ rfl,h 1 _ rfl,h 2 _ rfl⟩
def PlanGives (p:Pl.Plan × Int × Nat) (w:World) (e:Ending) (w':World):Prop :=
 ∃ A c A' c',p.1.secs.length<=c/\p.1.sigs.length<=c' /\
   e=.returned (.tuple #[.agg #[.int .i64 p.1.ov,.int .i64 p.1.ap,.int .i64 p.1.se,.int .i64 p.1.ho,.slice A p.1.secs.length c,.slice A' p.1.sigs.length c'],.agg #[.int .i64 p.2.1,.int .i64 p.2.2]]) /\
   aQ.Row w' A p.1.secs/\bD.Row w' A' p.1.sigs/\Below w.heap.size w w'
theorem PlanGives.bad {p:Pl.Plan × Int × Nat} {w w':World} {e:Ending} (x:Int) (n:Nat) (hp:p=(Pl.Plan.zero,x,n)) (he:e=.returned (.tuple #[.agg #[.int .i64 0,.int .i64 0,.int .i64 0,.int .i64 0,.slice none 0 0,.slice none 0 0],.agg #[.int .i64 x,.int .i64 (n:Int)]])) (hb:Below w.heap.size w w'):PlanGives p w e w':=by
 subst hp
 exact⟨none,0,none,0,ArR _,ArR _,he,.inl rfl,.inl rfl,hb⟩
theorem tV (a b:List UInt8):Op.bytesLess (txt a).toList (txt b).toList=decide (a<b):=by rw[bK,bK];exact bytesLess_eq a b
def fN (pt:Bool) (e:Int):UInt8:=if 0<=e/\e<=2 then Pl.letter pt e.toNat else 0
theorem tX (pt:Bool) (e:Int) (w:World) :
 Calls Tryz.prog 87 #[.bool pt,.int .i64 e] w λx w'=>x=.returned (.int .u8 (fN pt e).toNat)/\Below w.heap.size w w':=by
 have hb0:=hid ((AtB w).alloc (ArR _) (.cells #[.int .u8 97,.int .u8 98,.int .u8 0] 185))
 have hb1:=hid ((AtB w).alloc (ArR _) (.cells #[.int .u8 116,.int .u8 110,.int .u8 114] 185))
 by_cases h0:e<0
 ·have d0:decide (e<0)=true:=aC h0
  have P:=hid (show fN pt e=0 by unfold fN;rw[ArY (by omega)])
  clear h0
  cases pt
  all_goals
   go_enter Tryz.func87,Tryz.ntmps87
   go_wp2
   go_ret
   first|exact⟨by rw[P.out];rfl,hb0.out⟩|exact⟨by rw[P.out];rfl,hb1.out⟩
 have d0:decide (e<0)=false:=aB h0
 by_cases h2:2<e
 ·have d2:decide (2<e)=true:=aC h2
  have P:=hid (show fN pt e=0 by unfold fN;rw[ArY (by omega)])
  clear h0 h2
  cases pt
  all_goals
   go_enter Tryz.func87,Tryz.ntmps87
   go_wp2
   go_ret
   first|exact⟨by rw[P.out];rfl,hb0.out⟩|exact⟨by rw[P.out];rfl,hb1.out⟩
 have he:e=0∨e=1∨e=2:=by omega
 clear d0 h0 h2
 rcases he with rfl|rfl|rfl
 all_goals
  cases pt
  all_goals
   go_enter Tryz.func87,Tryz.ntmps87
   go_wp2
   go_ret
   first|exact⟨rfl,hb0.out⟩|exact⟨rfl,hb1.out⟩
theorem AgL {L:List Pl.Sec} {nm:List UInt8} {k:Nat} (hk:k<L.length) (h0:∀ j<k,∀ t,L[j]?=some t->t.name≠nm) (h:L[k].name≠nm):∀ j<k+1,∀ t,L[j]?=some t->t.name≠nm:=λj hj t ht=>by
 rcases Nat.lt_or_ge j k with h1|h1
 ·exact h0 j h1 t ht
 obtain rfl:j=k:=by omega
 rw[ArN hk] at ht
 cases ht
 exact h
theorem AdS {x y:List UInt8} (h:x=y):((txt x).toList == (txt y).toList)=true:=by rw[h];simp
theorem AdT {x y:List UInt8} (h:x≠y):((txt x).toList == (txt y).toList)=false:=by rw[ArU,bK,bK];exact h
theorem iY (A:Option Addr) (c:Nat) (L:List Pl.Sec) (nm:List UInt8) (w:World) (h:aQ.Row w A L) (hl:L.length<=1000000) :
 Calls Tryz.prog 55 #[.slice A L.length c,.string (txt nm)] w λe w'=>e=.returned (.int .i64 (Pl.find L nm))/\w=w':=by
 go_enter Tryz.func55,Tryz.ntmps55
 go_wp2
 go_loop [5] (λi=>∃ k:Nat,k<=L.length/\i=.int .i64 k/\∀ j<k,∀ t,L[j]?=some t->t.name≠nm) (λi=>L.length-(intOf i).toNat)
 case atStart=>exact⟨0,AsD _,rfl,λj hj=>absurd hj (by omega)⟩
 case round =>
  obtain⟨k,hk,rfl,h0⟩:=hrel
  have H0:=hid h0
  clear h0
  by_cases hlt:k<L.length
  ·obtain⟨b,o,rfl,hb,on⟩:=h.at hlt
   have a0:=(bE on).1
   clear on
   rw[show k*aQ.m=k*12 from rfl] at a0
   by_cases he:L[k].name=nm
   ·have h1:=AdS he
    have P:=hid (Pl.find_at (ArN hlt) he H0.out)
    clear he
    go_wp2
    go_ret
    exact⟨by rw[P.out];rfl,rfl⟩
   have h1:=AdT he
   have N:=hid (AgL hlt H0.out he)
   clear he
   go_wp2
   go_round
   case rel=>exact⟨k+1,by omega,by go_num,N.out⟩
   case measure=>simp[intOf];omega
  have P:=hid (Pl.find_none (l:=L) (nm:=nm) λs hs=>by
   obtain⟨j,hj,rfl⟩:=List.getElem_of_mem hs
   exact H0.out j (by omega) _ (ArN hj))
  go_wp2
  go_ret
  exact⟨by rw[P.out];rfl,rfl⟩
def AqR (L:List Pl.Sec) (i:Int):Bool:=((L[i.toNat]?).map Pl.Sec.pt).getD false
def iF (L:List Pl.Sec) (t:It.Tp):Int × Int × Int :=
 if Pl.find L t.n<0 then(0,0,4) else match Pl.endAt (AqR L (Pl.find L t.n)) t.c with
  | some e=>(Pl.find L t.n,(e:Int),0)
  | none=>(0,0,5)
theorem tY {L:List Pl.Sec} {t:It.Tp} (h:Pl.find L t.n<0):iF L t=(0,0,4):=by unfold iF;rw[ArZ h]
theorem tZ {L:List Pl.Sec} {t:It.Tp} {i:Nat} {s:Pl.Sec} (h:Pl.find L t.n=i) (hs:L[i]?=some s):iF L t=match Pl.endAt s.pt t.c with|some e=>((i:Int),(e:Int),0)|none=>(0,0,5):=by
 unfold iF
 rw[ArY (by omega),h,AqR,AsP,hs];rfl
theorem AgM {pt:Bool} {c:UInt8} (hc:c≠0) {k:Nat} (hk:k<3) (h0:∀ j<k,Pl.letter pt j≠c) (h:Pl.letter pt k=c):Pl.endAt pt c=some k:=by
 unfold Pl.endAt
 have hk':k=0∨k=1∨k=2:=by omega
 rcases hk' with rfl|rfl|rfl
 ·rw[ArZ h]
 ·rw[ArY (h0 0 (by omega)),ArZ h]
 rw[ArY (h0 0 (by omega)),ArY (h0 1 (by omega))]
 cases pt
 ·exact absurd h.symm hc
 rw[ArZ ⟨rfl,h⟩]
theorem AaU {pt:Bool} {c:UInt8} (h0:∀ j<3,Pl.letter pt j≠c):Pl.endAt pt c=none:=by
 unfold Pl.endAt
 rw[ArY (h0 0 (by omega)),ArY (h0 1 (by omega)),ArY λh=>h0 2 (by omega) h.2]
theorem xC (pt:Bool) (k:Nat) (hk:k<3):fN pt k=Pl.letter pt k:=by
 unfold fN
 rw[ArZ (by omega)];rfl
theorem ApR {a b:UInt8} (h:a=b):((a.toNat:Int) == (b.toNat:Int))=true:=by rw[h];simp
theorem ApS {a b:UInt8} (h:a≠b):((a.toNat:Int) == (b.toNat:Int))=false:=by
 rw[ArU]
 exact λe=>h (UInt8.toNat_inj.mp (by omega))
theorem row2c {w:World} {g:Nat} {a b:Value} {t:TypeId} (h:w.heap[g]?=some (.cells #[a,b] t (0,0))):(w.cell? ⟨g,0,none⟩=some a/\w.cell? ⟨g,1,none⟩=some b)/\g<w.heap.size :=
 ⟨⟨AsY w g 0 _ t _ h,AsY w g 1 _ t _ h⟩,(ArL h).1⟩
def EndGives (L:List Pl.Sec) (t:It.Tp) (w:World) (e:Ending) (w':World):Prop:=e=.returned (.tuple #[.int .i64 (iF L t).1,.int .i64 (iF L t).2.1,.int .i64 (iF L t).2.2])/\Below w.heap.size w w'
theorem EndGives.mk {L:List Pl.Sec} {t:It.Tp} {w w':World} {e:Ending} (a b c:Int) (h:iF L t=(a,b,c)) (he:e=.returned (.tuple #[.int .i64 a,.int .i64 b,.int .i64 c])) (hb:Below w.heap.size w w'):EndGives L t w e w':=by
 refine⟨?_,hb⟩
 rw[h];exact he
theorem lC (A:Option Addr) (c:Nat) (L:List Pl.Sec) (t:It.Tp) (w:World) (h:aQ.Row w A L) (hl:L.length<=1000000) (hc:t.c≠0) :
 Calls Tryz.prog 56 #[.slice A L.length c,.agg #[.string (txt t.n),.int .u8 t.c.toNat]] w (EndGives L t w):=by
 have hb0:=hid ((AtB w).alloc (ArR _) (.cells #[.string (txt t.n),.int .u8 t.c.toNat] 64))
 have F:=hid (iY A c L t.n (w.alloc (.cells #[.string (txt t.n),.int .u8 t.c.toNat] 64)) (h.below rfl hb0.out) hl)
 have R0:=hid (show (w.alloc (.cells #[.string (txt t.n),.int .u8 t.c.toNat] 64)).heap[w.heap.size]?=some (.cells #[.string (txt t.n),.int .u8 t.c.toNat] 64 (0,0)) from AsW _ _)
 rcases Pl.find_cases L t.n with ⟨hf,_⟩|⟨i,s,hf,hs,_⟩
 ·have P:=hid (tY (L:=L) (t:=t) (by rw[hf];decide))
  rw[hf] at F
  clear hf h hl hc
  go_enter Tryz.func56,Tryz.ntmps56
  go_wp2_with fail
  refine F.out.mono ?_;rintro e w1 ⟨rfl,rfl⟩
  go_wp2_with fail
  refine bodyPost_ret ?_ rfl (EndGives.mk _ _ _ P.out rfl hb0.out)
  simp[results,Tryz.results56,go_sem]
 have E:=hid (tZ hf hs)
 rw[hf] at F
 obtain⟨hi,hs'⟩:=ArM hs
 subst hs'
 clear hf hs
 go_enter Tryz.func56,Tryz.ntmps56
 go_wp2_with fail
 refine F.out.mono ?_;rintro e w1 ⟨rfl,rfl⟩
 go_wp2_with fail
 go_loopw [8] (λv wr=>∃ k:Nat,k<=3/\v=.int .i64 k/\(∀ j<k,Pl.letter L[i].pt j≠t.c)/\Below w.heap.size w wr/\wr.heap[w.heap.size]?=some (.cells #[.string (txt t.n),.int .u8 t.c.toNat] 64 (0,0))) (λv _=>3-(intOf v).toNat)
 case atStart=>exact⟨0,AsD _,rfl,λj hj=>absurd hj (by omega),hb0.out,R0.out⟩
 case round =>
  obtain⟨k,hk,rfl,h0,hbel,hrow⟩:=hrel
  have H0:=hid h0
  have RR:=hid hrow
  clear h0
  by_cases hlt:k<3
  ·have d1:decide ((k:Int)<3)=true:=aC (by omega)
   obtain⟨b,o,rfl,hb,on⟩:=(h.below rfl hbel).at hi
   have a1:=(bE on).2.1
   clear on
   rw[show i*aQ.m=i*12 from rfl] at a1
   obtain⟨⟨c0,c1⟩,hg⟩:=row2c hrow
   clear hrow
   have LT:=hid (λW (h:Below wr.heap.size wr W)=>Made.of h (tX L[i].pt k W))
   rw[xC _ _ hlt] at LT
   go_wp2_with fail
   by_cases he:Pl.letter L[i].pt k=t.c
   ·have h1:=ApR he
    have P:=hid (E.out.trans (by rw[AgM hc hlt H0.out he]))
    clear he
    go_region_held3 (λw'=>w'.cell? ⟨b,o+i*12+1,none⟩=some (.bool L[i].pt)/\w'.cell? ⟨w.heap.size,1,none⟩=some (.int .u8 t.c.toNat))
     (first|exact⟨a1,c1⟩|exact⟨(hcell _ _ hb).trans a1,(hcell _ _ hg).trans c1⟩)
     (first
      | (go_at_call 87;(with_reducible refine(LT.out _ (Below.refl _ _).drew).mono ?_);rintro e w' ⟨rfl,hbl,hacc,hz⟩;have hcell:=(bcell hbl).1)
      | (go_at_call 87;(with_reducible refine(LT.out _ (aH (Below.refl _ _) _)).mono ?_);rintro e w' ⟨rfl,hbl,hacc,hz⟩;have hcell:=(bcell hbl).1))
    all_goals go_wp2_with fail
    all_goals refine bodyPost_ret ?_ rfl (EndGives.mk _ _ _ P.out rfl (hbel.trans (hacc.mono hbel.size)))
    all_goals simp[results,Tryz.results56,go_sem]
   have h1:=ApS he
   have N:=hid (show ∀ j<k+1,Pl.letter L[i].pt j≠t.c from λj hj=>by
    rcases Nat.lt_or_ge j k with h|h
    ·exact H0.out j h
    obtain rfl:j=k:=by omega
    exact he)
   clear he
   go_region_held3 (λw'=>w'.cell? ⟨b,o+i*12+1,none⟩=some (.bool L[i].pt)/\w'.cell? ⟨w.heap.size,1,none⟩=some (.int .u8 t.c.toNat))
    (first|exact⟨a1,c1⟩|exact⟨(hcell _ _ hb).trans a1,(hcell _ _ hg).trans c1⟩)
    (first
     | (go_at_call 87;(with_reducible refine(LT.out _ (Below.refl _ _).drew).mono ?_);rintro e w' ⟨rfl,hbl,hacc,hz⟩;have hcell:=(bcell hbl).1)
     | (go_at_call 87;(with_reducible refine(LT.out _ (aH (Below.refl _ _) _)).mono ?_);rintro e w' ⟨rfl,hbl,hacc,hz⟩;have hcell:=(bcell hbl).1))
   all_goals go_wp2_with fail
   all_goals go_roundw
   case rel=>exact⟨k+1,by omega,by go_num,N.out,hbel.trans (hacc.mono hbel.size),(hacc.block _ hg).trans RR.out⟩
   case measure=>simp[intOf];omega
  have d1:decide ((k:Int)<3)=false:=aB (by omega)
  have P:=hid (E.out.trans (by rw[AaU λj hj=>H0.out j (by omega)]))
  go_wp2_with fail
  refine bodyPost_ret ?_ rfl (EndGives.mk _ _ _ P.out rfl hbel)
  simp[results,Tryz.results56,go_sem]
def bI (M:List It.Itm) (k:Int):Bool:=M.any λy=>decide (y.k=k)
def aO (M:List It.Itm) (vS vG:Value):Array Value :=
 #[.int .i64 (Pl.num M 1),.int .i64 (Pl.num M 2),.int .i64 (Pl.num M 3),.int .i64 (Pl.num M 4),vS,vG,.bool false,.bool (bI M 1),.bool (bI M 2),.bool (bI M 3),.bool (bI M 4)]
def WorkL (tw tS tG:TypeId) (w:World) (g:Nat) (M:List It.Itm) (LS:List Pl.Sec) (LG:List Pl.Sig):Prop :=
 ∃ vS vG,w.heap[g]?=some (.cells (aO M vS vG) tw (0,0))/\w.ownsRow (g+1) tS aQ.m vS LS.length (aQ.all LS)/\w.ownsRow (g+1) tG bD.m vG LG.length (bD.all LG)/\∀ k,vS.ownBlock=some k->vG.ownBlock≠some k
def WorkAt (tw tS tG:TypeId) (w:World) (g:Nat) (M:List It.Itm):Prop:=WorkL tw tS tG w g M (Pl.wS M) (Pl.wG M)
theorem WorkL.below {tw tS tG:TypeId} {w w':World} {g:Nat} {M:List It.Itm} {LS:List Pl.Sec} {LG:List Pl.Sig} (h:WorkL tw tS tG w g M LS LG) (hb:Below w.heap.size w w'):WorkL tw tS tG w' g M LS LG:=by
 obtain⟨vS,vG,h1,h2,h3,h4⟩:=h
 exact⟨vS,vG,(hb.block _ (ArL h1).1).trans h1,aA h2 hb,aA h3 hb,h4⟩
theorem bA {w:World} {g:Nat} {t:TypeId} {M:List It.Itm} {vS vG:Value} (h:w.heap[g]?=some (.cells (aO M vS vG) t (0,0))) :
 (w.cell? ⟨g,0,none⟩=some (.int .i64 (Pl.num M 1))/\w.cell? ⟨g,1,none⟩=some (.int .i64 (Pl.num M 2))/\w.cell? ⟨g,2,none⟩=some (.int .i64 (Pl.num M 3))/\w.cell? ⟨g,3,none⟩=some (.int .i64 (Pl.num M 4))/\w.cell? ⟨g,4,none⟩=some vS/\w.cell? ⟨g,5,none⟩=some vG) /\
 (w.cell? ⟨g,6,none⟩=some (.bool false)/\w.cell? ⟨g,7,none⟩=some (.bool (bI M 1))/\w.cell? ⟨g,8,none⟩=some (.bool (bI M 2))/\w.cell? ⟨g,9,none⟩=some (.bool (bI M 3))/\w.cell? ⟨g,10,none⟩=some (.bool (bI M 4)))/\(∀ j,w.frozen? ⟨g,j,none⟩=false)/\g<w.heap.size :=
 ⟨⟨AsY w g 0 _ t _ h,AsY w g 1 _ t _ h,AsY w g 2 _ t _ h,AsY w g 3 _ t _ h,AsY w g 4 _ t _ h,AsY w g 5 _ t _ h⟩,
   ⟨AsY w g 6 _ t _ h,AsY w g 7 _ t _ h,AsY w g 8 _ t _ h,AsY w g 9 _ t _ h,AsY w g 10 _ t _ h⟩,λj=>AsZ w g j _ t h,(ArL h).1⟩
theorem xD {w:World} {b o:Nat} {s:Pl.Sec} (h:aQ.On w b o s) {e:Nat} (he:e<3):w.cell? ⟨b,o+3+e*3,none⟩=some (.int .i64 (s.get e).goes):=by
 have:e=0∨e=1∨e=2:=by omega
 rcases this with rfl|rfl|rfl
 ·exact h 3 _ rfl
 ·exact h 6 _ rfl
 exact h 9 _ rfl
theorem AoY {w:World} {b o:Nat} {s:Pl.Sec} (h:aQ.On w b o s) {e:Nat} (he:e<3):w.cell? ⟨b,o+3+e*3+1,none⟩=some (.int .i64 (s.get e).at_):=by
 have:e=0∨e=1∨e=2:=by omega
 rcases this with rfl|rfl|rfl
 ·exact h 4 _ rfl
 ·exact h 7 _ rfl
 exact h 10 _ rfl
theorem AaV {w:World} {b o:Nat} {s:Pl.Sec} (h:aQ.On w b o s) {e:Nat} (he:e<3):w.cell? ⟨b,o+3+e*3+2,none⟩=some (.int .i64 (s.get e).sig):=by
 have:e=0∨e=1∨e=2:=by omega
 rcases this with rfl|rfl|rfl
 ·exact h 5 _ rfl
 ·exact h 8 _ rfl
 exact h 11 _ rfl
inductive FreeIs (L:List Pl.Sec) (t:It.Tp):Int × Int × Int->Prop
 | none (h:Pl.find L t.n = -1):FreeIs L t (0,0,4)
 | noEnd (i:Nat) (s:Pl.Sec) (h:Pl.find L t.n=i) (hs:L[i]?=some s) (he:Pl.endAt s.pt t.c=Option.none):FreeIs L t (0,0,5)
 | used (i e:Nat) (s:Pl.Sec) (h:Pl.find L t.n=i) (hs:L[i]?=some s) (he:Pl.endAt s.pt t.c=some e) (ht:(s.get e).goes ≠ -2):FreeIs L t (0,0,6)
 | free (i e:Nat) (s:Pl.Sec) (h:Pl.find L t.n=i) (hs:L[i]?=some s) (he:Pl.endAt s.pt t.c=some e) (ht:(s.get e).goes = -2):FreeIs L t (i,e,0)
def FreeGives (L:List Pl.Sec) (t:It.Tp) (w:World) (x:Ending) (w':World):Prop:=∃ a b c,x=.returned (.tuple #[.int .i64 a,.int .i64 b,.int .i64 c])/\FreeIs L t (a,b,c)/\Below w.heap.size w w'
theorem FreeGives.mk {L:List Pl.Sec} {t:It.Tp} {w w':World} {x:Ending} (a b c:Int) (h:FreeIs L t (a,b,c)) (he:x=.returned (.tuple #[.int .i64 a,.int .i64 b,.int .i64 c])) (hb:Below w.heap.size w w'):FreeGives L t w x w':=⟨a,b,c,he,h,hb⟩
theorem AkM {pt:Bool} {c:UInt8} {e:Nat} (h:Pl.endAt pt c=some e):e<3:=by
 have:=(Pl.letter_endAt h).2
 unfold Pl.nEnds at this
 split at this <;> omega
theorem iZ (g:Nat) (M:List It.Itm) (L:List Pl.Sec) (LG:List Pl.Sig) (t:It.Tp) (w:World) (h:WorkL 73 56 58 w g M L LG) (hl:L.length<=1000000) (hc:t.c≠0) :
 Calls Tryz.prog 86 #[.pointer (some ⟨g,0,none⟩),.agg #[.string (txt t.n),.int .u8 t.c.toNat]] w (FreeGives L t w):=by
 obtain⟨vS,vG,hrow,hS,hG,hap⟩:=h
 obtain⟨-,A,cp,rfl,hcap,hR⟩:=Lies.Row.of_own hS
 obtain⟨⟨-,-,-,-,s4,-⟩,-,hfz,hg⟩:=bA hrow
 clear hS hG hap hcap
 have X0:=hid ((AtB w).alloc (ArR _) (.cells #[.string (txt t.n),.int .u8 t.c.toNat] 64))
 have EN:=hid (λW (h:Below w.heap.size w W)=>Made.of h (lC A cp L t W (hR.below rfl h) hl hc))
 obtain⟨⟨k0,k1⟩,g2⟩:=row2c (show (w.alloc (.cells #[.string (txt t.n),.int .u8 t.c.toNat] 64)).heap[w.heap.size]?=some (.cells #[.string (txt t.n),.int .u8 t.c.toNat] 64 (0,0)) from AsW _ _)
 have K4:(w.alloc (.cells #[.string (txt t.n),.int .u8 t.c.toNat] 64)).cell? ⟨g,4,none⟩=some (.slice A L.length cp):=by
  rw[X0.out.cell (show (⟨g,4,none⟩:Addr).block<w.heap.size from hg)];exact s4
 have g1:g<(w.alloc (.cells #[.string (txt t.n),.int .u8 t.c.toNat] 64)).heap.size:=Nat.lt_trans hg g2
 rcases Pl.find_cases L t.n with ⟨hf,_⟩|⟨i,s,hf,hs,_⟩
 focus
  have P:=hid (FreeIs.none hf)
  rw[tY (show Pl.find L t.n<0 by rw[hf];decide)] at EN
  clear hf
 rotate_left
 focus
  rw[tZ hf hs] at EN
  rcases he:Pl.endAt s.pt t.c with _|e
  rotate_left
  ·have h3:=AkM he
   rw[he] at EN
   obtain⟨hi,hsi⟩:=ArM hs
   obtain⟨b,o,hA,hb,on⟩:=hR.at hi
   rw[hsi] at on
   have t0:=xD on h3
   rw[show i*aQ.m=i*12 from rfl] at t0
   subst hA
   clear on hsi
   by_cases ht:(s.get e).goes = -2
   focus
    have P:=hid (FreeIs.free i e s hf hs he ht)
    rw[ht] at t0
    clear ht
   rotate_left
   focus
    have P:=hid (FreeIs.used i e s hf hs he ht)
    have h2:((s.get e).goes != -2)=true:=by rw[AsV];exact ht
    clear ht
   all_goals
    clear hf hs he hR hl hc
    go_enter Tryz.func86,Tryz.ntmps86
    go_wp2_with fail
    go_region_held3 (λw'=>w'.cell? ⟨g,4,none⟩=some (.slice (some ⟨b,o,none⟩) L.length cp)/\w'.cell? ⟨w.heap.size,0,none⟩=some (.string (txt t.n))/\w'.cell? ⟨w.heap.size,1,none⟩=some (.int .u8 t.c.toNat))
     (first|exact⟨K4,k0,k1⟩|exact⟨(hcell _ _ g1).trans K4,(hcell _ _ g2).trans k0,(hcell _ _ g2).trans k1⟩)
     (first
      | (go_at_call 56;(with_reducible refine(EN.out _ X0.out.drew).mono ?_);rintro e w' ⟨rfl,hbl,hacc,hz⟩;have hcell:=(bcell hbl).1))
    all_goals have T0:=(hacc.cell (show (⟨b,o+i*12+3+e*3,none⟩:Addr).block<w.heap.size from hb)).trans t0
    all_goals have S4:=(hacc.cell (show (⟨g,4,none⟩:Addr).block<w.heap.size from hg)).trans s4
    all_goals go_wp2_with fail
    all_goals refine bodyPost_ret ?_ rfl (FreeGives.mk _ _ _ P.out rfl hacc)
    all_goals simp[results,Tryz.results86,go_sem]
  have P:=hid (FreeIs.noEnd i s hf hs he)
  rw[he] at EN
  clear hf hs he
 all_goals
  clear hR hl hc
  go_enter Tryz.func86,Tryz.ntmps86
  go_wp2_with fail
  go_region_held3 (λw'=>w'.cell? ⟨g,4,none⟩=some (.slice A L.length cp)/\w'.cell? ⟨w.heap.size,0,none⟩=some (.string (txt t.n))/\w'.cell? ⟨w.heap.size,1,none⟩=some (.int .u8 t.c.toNat))
   (first|exact⟨K4,k0,k1⟩|exact⟨(hcell _ _ g1).trans K4,(hcell _ _ g2).trans k0,(hcell _ _ g2).trans k1⟩)
   (first
    | (go_at_call 56;(with_reducible refine(EN.out _ X0.out.drew).mono ?_);rintro e w' ⟨rfl,hbl,hacc,hz⟩;have hcell:=(bcell hbl).1))
  all_goals go_wp2_with fail
  all_goals refine bodyPost_ret ?_ rfl (FreeGives.mk _ _ _ P.out rfl hacc)
  all_goals simp[results,Tryz.results86,go_sem]
theorem dA (M:List It.Itm) (x:It.Itm) (k:Int):bI (M++[x]) k=(bI M k || decide (x.k=k)):=by simp[bI,List.any_append]
theorem jU {M:List It.Itm} {k:Int} (h:bI M k=false):∀ y∈M,y.k≠k:=λy hy e=>by
 have:bI M k=true:=by
  unfold bI
  rw[List.any_eq_true]
  exact⟨y,hy,by simpa using e⟩
 rw[h] at this;cases this
def dX (tw tS tG:TypeId) (g:Nat) (M:List It.Itm) (x:It.Itm) (er:Int) (w:World) (e:Ending) (w':World):Prop :=
 e=.returned (.int .i64 er)/\(er=0->WorkAt tw tS tG w' g (M++[x]))/\Below g w w'
theorem WorkAt.row {tw tS tG:TypeId} {w w':World} {g:Nat} {M K:List It.Itm} {vS vG:Value} (hS:w.ownsRow (g+1) tS aQ.m vS (Pl.wS M).length (aQ.all (Pl.wS M))) (hG:w.ownsRow (g+1) tG bD.m vG (Pl.wG M).length (bD.all (Pl.wG M))) (hap:∀ k,vS.ownBlock=some k->vG.ownBlock≠some k)
 (hrow:w'.heap[g]?=some (.cells (aO K vS vG) tw (0,0))) (hk:∀ b,b≠g->b<w.heap.size->w'.heap[b]?=w.heap[b]?) (e1:Pl.wS K=Pl.wS M) (e2:Pl.wG K=Pl.wG M):WorkAt tw tS tG w' g K:=by
 refine⟨vS,vG,hrow,?_,?_,hap⟩
 ·rw[e1]
  refine⟨hS.1,?_⟩
  rcases hS.2 with hn|⟨b,cap,cur,rfl,hbb,hgg,rest⟩
  ·exact .inl hn
  exact .inr ⟨b,cap,cur,rfl,hbb,by rw[hk b (by omega) (ArL hgg).1];exact hgg,rest⟩
 rw[e2]
 refine⟨hG.1,?_⟩
 rcases hG.2 with hn|⟨b,cap,cur,rfl,hbb,hgg,rest⟩
 ·exact .inl hn
 exact .inr ⟨b,cap,cur,rfl,hbb,by rw[hk b (by omega) (ArL hgg).1];exact hgg,rest⟩
theorem dQ {w:World} {g:Nat} {cs:Array Value} {tw:TypeId} (hrow:w.heap[g]?=some (.cells cs tw (0,0))) (a b:Nat) (u v:Value) (o:Obj) :
 ((((w.setCell ⟨g,a,none⟩ u).setCell ⟨g,b,none⟩ v).alloc o).drew.drew).heap[g]?=some (.cells ((cs.setIfInBounds a u).setIfInBounds b v) tw (0,0)) /\
 (∀ c,c≠g->c<w.heap.size->((((w.setCell ⟨g,a,none⟩ u).setCell ⟨g,b,none⟩ v).alloc o).drew.drew).heap[c]?=w.heap[c]?)/\Below g w ((((w.setCell ⟨g,a,none⟩ u).setCell ⟨g,b,none⟩ v).alloc o).drew.drew):=by
 have hg:=(ArL hrow).1
 refine⟨?_,λc hc hlt=>?_,?_⟩
 ·show (((w.setCell ⟨g,a,none⟩ u).setCell ⟨g,b,none⟩ v).alloc o).heap[g]?=_
  rw[heap_alloc_old _ _ (by simpa using hg)]
  exact AtA _ _ _ _ _ _ (AtA _ _ _ _ _ _ hrow)
 ·show (((w.setCell ⟨g,a,none⟩ u).setCell ⟨g,b,none⟩ v).alloc o).heap[c]?=_
  rw[heap_alloc_old _ _ (by simpa using hlt),AsX _ ⟨g,b,none⟩ c v (by simpa using λe=>hc e),AsX _ ⟨g,a,none⟩ c u (by simpa using λe=>hc e)]
 refine Below.drew (Below.drew (Below.alloc ?_ (by simp;omega) _))
 exact((Below.refl g w).setCell (ArR _) _).setCell (ArR _) _
theorem AaW {M:List It.Itm} {x:It.Itm} (h:bI M 1=false) (hk:x.k=1) (vS vG:Value):((aO M vS vG).setIfInBounds 7 (.bool true)).setIfInBounds 0 (.int .i64 x.n)=aO (M++[x]) vS vG:=by
 have h0:=jU h
 simp[aO,dA,hk,Pl.num_snoc (M:=M) (x:=x) _ (by rw[hk];exact h0)]
theorem AaX {M:List It.Itm} {x:It.Itm} (h:bI M 2=false) (hk:x.k=2) (vS vG:Value):((aO M vS vG).setIfInBounds 8 (.bool true)).setIfInBounds 1 (.int .i64 x.n)=aO (M++[x]) vS vG:=by
 have h0:=jU h
 simp[aO,dA,hk,Pl.num_snoc (M:=M) (x:=x) _ (by rw[hk];exact h0)]
theorem AaY {M:List It.Itm} {x:It.Itm} (h:bI M 3=false) (hk:x.k=3) (vS vG:Value):((aO M vS vG).setIfInBounds 9 (.bool true)).setIfInBounds 2 (.int .i64 x.n)=aO (M++[x]) vS vG:=by
 have h0:=jU h
 simp[aO,dA,hk,Pl.num_snoc (M:=M) (x:=x) _ (by rw[hk];exact h0)]
theorem AaZ {M:List It.Itm} {x:It.Itm} (h:bI M 4=false) (hk:x.k=4) (vS vG:Value):((aO M vS vG).setIfInBounds 10 (.bool true)).setIfInBounds 3 (.int .i64 x.n)=aO (M++[x]) vS vG:=by
 have h0:=jU h
 simp[aO,dA,hk,Pl.num_snoc (M:=M) (x:=x) _ (by rw[hk];exact h0)]
theorem uA (g:Nat) (M:List It.Itm) (x:It.Itm) (w:World) (h:WorkAt 73 56 58 w g M) (hk:It.isNum x.k=true) :
 Calls Tryz.prog 54 #[.pointer (some ⟨g,0,none⟩),lW x] w (dX 73 56 58 g M x (if bI M x.k then 3 else 0) w):=by
 obtain⟨e1,e2⟩:=Pl.w_num (M:=M) hk
 obtain⟨vS,vG,hrow,hS,hG,hap⟩:=h
 obtain⟨⟨s0,s1,s2,s3,s4,s5⟩,⟨s6,s7,s8,s9,s10⟩,hfz,hg⟩:=bA hrow
 have hx:x.k=1∨x.k=2∨x.k=3∨x.k=4:=by
  unfold It.isNum at hk
  have:=of_decide_eq_true hk
  omega
 have N0:=World.new_ne _ _ s0
 have N7:=World.new_ne _ _ s7
 clear s4 s5 s6
 have HB:=hid ((Below.refl g w).alloc (Nat.le_of_lt hg) (.cells (cells7 x).toArray 67))
 have CN1:=hid (λh hk=>AaW (M:=M) (x:=x) h hk vS vG)
 have CN2:=hid (λh hk=>AaX (M:=M) (x:=x) h hk vS vG)
 have CN3:=hid (λh hk=>AaY (M:=M) (x:=x) h hk vS vG)
 have CN4:=hid (λh hk=>AaZ (M:=M) (x:=x) h hk vS vG)
 have E1:=hid e1
 have E2:=hid e2
 have HR:=hid hrow
 have HS:=hid hS
 have HG:=hid hG
 have HA:=hid hap
 clear e1 e2 hrow hS hG hap hk
 obtain⟨k,nm,n,t0,t1⟩:=x
 have hxk:k=1∨k=2∨k=3∨k=4:=hx
 clear hx
 rcases hxk with rfl|rfl|rfl|rfl
 ·have fa:=hfz 7
  have fb:=hfz 0
  clear hfz
  cases ht:bI M 1
  ·rw[ht] at s7
   have HT:=hid ht
   clear ht
   go_enter Tryz.func54,Tryz.ntmps54
   go_wp2_with fail
   go_region
   go_wp2_with fail
   go_region
   go_wp2
   go_ret
   obtain⟨r1,r2,r3⟩:=dQ HR.out 7 0 (.bool true) (.int .i64 n) (.cells (cells7 ⟨1,nm,n,t0,t1⟩).toArray 67)
   rw[CN1.out HT.out (by first|rfl|trivial)] at r1
   exact⟨rfl,λ_=>WorkAt.row HS.out HG.out HA.out r1 r2 E1.out E2.out,r3⟩
  rw[ht] at s7
  have HT:=hid ht
  clear ht
  go_enter Tryz.func54,Tryz.ntmps54
  go_wp2_with fail
  go_region
  go_wp2
  go_ret
  exact⟨rfl,λh=>by simp at h,HB.out.drew⟩
 ·have fa:=hfz 8
  have fb:=hfz 1
  clear hfz
  cases ht:bI M 2
  ·rw[ht] at s8
   have HT:=hid ht
   clear ht
   go_enter Tryz.func54,Tryz.ntmps54
   go_wp2_with fail
   go_region
   go_wp2_with fail
   go_region
   go_wp2
   go_ret
   obtain⟨r1,r2,r3⟩:=dQ HR.out 8 1 (.bool true) (.int .i64 n) (.cells (cells7 ⟨2,nm,n,t0,t1⟩).toArray 67)
   rw[CN2.out HT.out (by first|rfl|trivial)] at r1
   exact⟨rfl,λ_=>WorkAt.row HS.out HG.out HA.out r1 r2 E1.out E2.out,r3⟩
  rw[ht] at s8
  have HT:=hid ht
  clear ht
  go_enter Tryz.func54,Tryz.ntmps54
  go_wp2_with fail
  go_region
  go_wp2
  go_ret
  exact⟨rfl,λh=>by simp at h,HB.out.drew⟩
 ·have fa:=hfz 9
  have fb:=hfz 2
  clear hfz
  cases ht:bI M 3
  ·rw[ht] at s9
   have HT:=hid ht
   clear ht
   go_enter Tryz.func54,Tryz.ntmps54
   go_wp2_with fail
   go_region
   go_wp2_with fail
   go_region
   go_wp2
   go_ret
   obtain⟨r1,r2,r3⟩:=dQ HR.out 9 2 (.bool true) (.int .i64 n) (.cells (cells7 ⟨3,nm,n,t0,t1⟩).toArray 67)
   rw[CN3.out HT.out (by first|rfl|trivial)] at r1
   exact⟨rfl,λ_=>WorkAt.row HS.out HG.out HA.out r1 r2 E1.out E2.out,r3⟩
  rw[ht] at s9
  have HT:=hid ht
  clear ht
  go_enter Tryz.func54,Tryz.ntmps54
  go_wp2_with fail
  go_region
  go_wp2
  go_ret
  exact⟨rfl,λh=>by simp at h,HB.out.drew⟩
 have fa:=hfz 10
 have fb:=hfz 3
 clear hfz
 cases ht:bI M 4
 ·rw[ht] at s10
  have HT:=hid ht
  clear ht
  go_enter Tryz.func54,Tryz.ntmps54
  go_wp2_with fail
  go_region
  go_wp2_with fail
  go_region
  go_wp2
  go_ret
  obtain⟨r1,r2,r3⟩:=dQ HR.out 10 3 (.bool true) (.int .i64 n) (.cells (cells7 ⟨4,nm,n,t0,t1⟩).toArray 67)
  rw[CN4.out HT.out (by first|rfl|trivial)] at r1
  exact⟨rfl,λ_=>WorkAt.row HS.out HG.out HA.out r1 r2 E1.out E2.out,r3⟩
 rw[ht] at s10
 have HT:=hid ht
 clear ht
 go_enter Tryz.func54,Tryz.ntmps54
 go_wp2_with fail
 go_region
 go_wp2
 go_ret
 exact⟨rfl,λh=>by simp at h,HB.out.drew⟩
theorem AdU:(Tryz.prog.info? 56).map (λi=>(i.zero,i.size,i.bytes))=some (some (.agg #[.string ⟨#[]⟩,.bool false,.int .i64 0,.int .i64 0,.int .i64 0,.int .i64 0,.int .i64 0,.int .i64 0,.int .i64 0,.int .i64 0,.int .i64 0,.int .i64 0]),12,104):=by kernel_rfl
abbrev item7 (y:It.Itm):Array Value:=#[.int .i64 y.k,.string (txt y.name),.int .i64 y.n,.string (txt y.e0.n),.int .u8 y.e0.c.toNat,.string (txt y.e1.n),.int .u8 y.e1.c.toNat]
def oP:Pl.En:=⟨0,0,0⟩
def bW (x:It.Itm) (k:Nat):Pl.Sec:=⟨x.name,Pl.isPt x,x.n,if 0<k then Pl.openE else oP,if 1<k then Pl.openE else oP,if 2<k then Pl.openE else oP⟩
theorem row12 {w:World} {g:Nat} {cs:Array Value} {t:TypeId} (h:w.heap[g]?=some (.cells cs t (0,0))):(∀ j,w.cell? ⟨g,j,none⟩=cs[j]?)/\(∀ j,w.frozen? ⟨g,j,none⟩=false)/\g<w.heap.size :=
 ⟨λj=>AsY w g j cs t _ h,λj=>AsZ w g j cs t h,(ArL h).1⟩
theorem set3 {w:World} {g:Nat} {cs:Array Value} {t:TypeId} (h:w.heap[g]?=some (.cells cs t (0,0))) (a b c:Nat) (u v z:Value) :
 (((w.setCell ⟨g,a,none⟩ u).setCell ⟨g,b,none⟩ v).setCell ⟨g,c,none⟩ z).heap[g]?=some (.cells (((cs.setIfInBounds a u).setIfInBounds b v).setIfInBounds c z) t (0,0)) :=
 AtA _ _ _ _ _ _ (AtA _ _ _ _ _ _ (AtA _ _ _ _ _ _ h))
theorem lD (x:It.Itm) (k:Nat) (hk:k<3):((((aI (bW x k)).toArray.setIfInBounds (3+k*3) (.int .i64 (-2))).setIfInBounds (3+k*3+1) (.int .i64 0)).setIfInBounds (3+k*3+2) (.int .i64 (-1)))=(aI (bW x (k+1))).toArray:=by
 have:k=0∨k=1∨k=2:=by omega
 rcases this with rfl|rfl|rfl <;> rfl
def fO (x:It.Itm):Pl.Sec:=⟨x.name,Pl.isPt x,x.n,Pl.openE,Pl.openE,if Pl.isPt x then Pl.openE else Pl.stop⟩
theorem jA {M:List It.Itm} {x:It.Itm} (h:It.isNum x.k=false) (vS vG:Value):aO (M++[x]) vS vG=aO M vS vG:=by
 have hk:∀ k:Int,1<=k->k<=4->x.k≠k:=λk h1 h2 e=>by
  unfold It.isNum at h
  exact absurd (show 1<=x.k/\x.k<=4 by omega) (of_decide_eq_false h)
 have n1:=hk 1 (by decide) (by decide)
 have n2:=hk 2 (by decide) (by decide)
 have n3:=hk 3 (by decide) (by decide)
 have n4:=hk 4 (by decide) (by decide)
 simp[aO,dA,Pl.num_other n1,Pl.num_other n2,Pl.num_other n3,Pl.num_other n4,n1,n2,n3,n4]
theorem aL {w w':World} {base:Nat} {e:TypeId} {size:Nat} {v:Value} {n:Nat} {xs:List Value} (h:w.ownsRow base e size v n xs) (hk:∀ b,v.ownBlock=some b->w'.heap[b]?=w.heap[b]?):w'.ownsRow base e size v n xs:=by
 refine⟨h.1,?_⟩
 rcases h.2 with hn|⟨b,cap,cur,rfl,hbb,hgg,rest⟩
 ·exact .inl hn
 exact .inr ⟨b,cap,cur,rfl,hbb,by rw[hk b rfl];exact hgg,rest⟩
theorem WorkAt.sections {tw tS tG:TypeId} {w w1 w2:World} {g:Nat} {M:List It.Itm} {x:It.Itm} {vS vG v':Value} {g' cap':Nat} (hrow:w.heap[g]?=some (.cells (aO M vS vG) tw (0,0)))
 (hS:w.ownsRow (g+1) tS aQ.m vS (Pl.wS M).length (aQ.all (Pl.wS M))) (hG:w.ownsRow (g+1) tG bD.m vG (Pl.wG M).length (bD.all (Pl.wG M))) (hap:∀ k,vS.ownBlock=some k->vG.ownBlock≠some k)
 (hb:Below w.heap.size w w1) (hgr:w1.grownBy w2 vS.ownBlock) (hv:v'=.slice (some ⟨g',0,none⟩) ((Pl.wS M).length+1) cap') (hown:w2.ownsRow (g+1) tS aQ.m v' ((Pl.wS M).length+1) (aQ.all (Pl.wS M)++aQ.enc (fO x))) (hg':vS.ownBlock=some g'∨w.heap.size<=g')
 (hk:It.isNum x.k=false) (e1:Pl.wS (M++[x])=Pl.wS M++[fO x]) (e2:Pl.wG (M++[x])=Pl.wG M):WorkAt tw tS tG (w2.setCell ⟨g,4,none⟩ v') g (M++[x])/\Below g w (w2.setCell ⟨g,4,none⟩ v'):=by
 have hg:=(ArL hrow).1
 have hbs:=hb.size
 have hne:some g≠vS.ownBlock:=λe=>by have:=(hS.lt g e.symm).1;omega
 have row2:w2.heap[g]?=some (.cells (aO M vS vG) tw (0,0)):=by rw[hgr.block g (by omega) hne,hb.block g hg];exact hrow
 refine⟨⟨v',vG,?_,?_,?_,?_⟩,?_⟩
 ·rw[AtA _ _ _ _ _ _ row2,jA hk];rfl
 ·rw[e1,ArV,List.length_singleton,aQ.all_append,aQ.all_one]
  exact ownsRow_setCell_below hown (a:=⟨g,4,none⟩) (by show g<g+1;omega) v'
 ·rw[e2]
  refine ownsRow_setCell_below (aL hG λb hb'=>?_) (a:=⟨g,4,none⟩) (by show g<g+1;omega) v'
  have hlt:=(hG.lt b hb').2
  rw[hgr.block b (by omega) (λe=>hap b e.symm hb'),hb.block b hlt]
 ·subst hv
  intro k hk1 hk2
  have:g'=k:=by simpa [Value.ownBlock] using hk1
  subst this
  rcases hg' with h|h
  ·exact hap g' h hk2
  have:=(hG.lt g' hk2).2;omega
 have hb':Below g w w1:=hb.mono (Nat.le_of_lt hg)
 exact(hb'.grown hgr (by omega) (λk hk=>by have:=(hS.lt k hk).1;omega)).setCell (ArR _) _
theorem iI (g:Nat) (M:List It.Itm) (x:It.Itm) (w:World) (h:WorkAt 73 56 58 w g M) (hM:Pl.Ok M) (hx:Pl.isS x=true) :
 Calls Tryz.prog 51 #[.pointer (some ⟨g,0,none⟩),lW x] w (dX 73 56 58 g M x (if x.name∈Pl.nmS M then 3 else if (Pl.secs M).length=24 then 9 else 0) w):=by
 obtain⟨vS,vG,hrow,hS,hG,hap⟩:=h
 obtain⟨-,A,cp,rfl,hcap,hR⟩:=Lies.Row.of_own hS
 obtain⟨⟨-,-,-,-,s4,-⟩,-,hfz,hg⟩:=bA hrow
 obtain⟨i0,hi,hz0,hz1,hz2⟩:=info_parts AdU
 have hl:(Pl.wS M).length<=24:=by rw[Pl.wS_len];exact hM.few
 have X0:=hid ((AtB w).alloc (ArR _) (.cells (item7 x) 67))
 have XG:=hid ((Below.refl g w).alloc (Nat.le_of_lt hg) (.cells (item7 x) 67))
 have FN:=hid (λW (h:Below w.heap.size w W)=>iY A cp (Pl.wS M) x.name W (hR.below rfl h) (by omega))
 obtain⟨⟨k0,k1,k2,k3,k4,k5,k6⟩,-,g2⟩:=row7 (show (w.alloc (.cells (item7 x) 67)).heap[w.heap.size]?=some (.cells #[.int .i64 x.k,.string (txt x.name),.int .i64 x.n,.string (txt x.e0.n),.int .u8 x.e0.c.toNat,.string (txt x.e1.n),.int .u8 x.e1.c.toNat] 67 (0,0)) from AsW _ _)
 have K4:(w.alloc (.cells (item7 x) 67)).cell? ⟨g,4,none⟩=some (.slice A (Pl.wS M).length cp):=by
  rw[X0.out.cell (show (⟨g,4,none⟩:Addr).block<w.heap.size from hg)];exact s4
 have g1:g<(w.alloc (.cells (item7 x) 67)).heap.size:=Nat.lt_trans hg g2
 rcases Pl.find_wS (M:=M) x.name with ⟨hno,hf⟩|⟨i,y,hf,hy,hn⟩
 ·rw[hf] at FN
  rw[ArY hno]
  by_cases h24:(Pl.secs M).length=24
  ·rw[ArZ h24]
   have q24:(((Pl.wS M).length:Int) == 24)=true:=by rw[beq_iff_eq,Pl.wS_len];omega
   clear hf hno hR hS hG hap hM hl hcap h24
   go_enter Tryz.func51,Tryz.ntmps51
   go_wp2_with fail
   go_region_held3 (λw'=>w'.cell? ⟨g,4,none⟩=some (.slice A (Pl.wS M).length cp)/\w'.cell? ⟨w.heap.size,1,none⟩=some (.string (txt x.name)))
    (first|exact⟨K4,k1⟩|exact⟨(hcell _ _ g1).trans K4,(hcell _ _ g2).trans k1⟩)
    (first
     | (go_at_call 55;(with_reducible refine(FN.out _ X0.out.drew).mono ?_);rintro e w' ⟨rfl,rfl⟩))
   all_goals go_wp2_with fail
   all_goals go_ret
   all_goals exact⟨rfl,λh=>by simp at h,XG.out.drew⟩
  rw[ArY h24]
  have q24:(((Pl.wS M).length:Int) == 24)=false:=by rw[ArU,Pl.wS_len];omega
  obtain⟨e1,e2⟩:=Pl.w_sec hM hx hno
  have HE1:=hid (show Pl.wS (M++[x])=Pl.wS M++[fO x] from e1)
  have HE2:=hid e2
  have HR:=hid hrow
  have HS:=hid hS
  have HG:=hid hG
  have HA:=hid hap
  have HK:=hid (Pl.sec_facts hx).1
  clear hf hno hR hS hG hap hM hcap h24 e1 e2 hx hrow
  cases hp:Pl.isPt x
  focus
   have hk6:(x.k == 6)=false:=by rw[ArU];exact λe=>by simp[Pl.isPt,e] at hp
  rotate_left
  focus
   have hk6:(x.k == 6)=true:=by rw[beq_iff_eq];simpa [Pl.isPt] using hp
  all_goals
   go_enter Tryz.func51,Tryz.ntmps51
   go_wp2_with fail
   go_region_held3 (λw'=>w'.cell? ⟨g,4,none⟩=some (.slice A (Pl.wS M).length cp)/\w'.cell? ⟨w.heap.size,1,none⟩=some (.string (txt x.name)))
    (first|exact⟨K4,k1⟩|exact⟨(hcell _ _ g1).trans K4,(hcell _ _ g2).trans k1⟩)
    (first
     | (go_at_call 55;(with_reducible refine(FN.out _ X0.out.drew).mono ?_);rintro e w' ⟨rfl,rfl⟩))
   all_goals go_wp2_with fail
   go_loopw [6] (λv wr=>∃ k:Nat,k<=3/\v=.int .i64 k/\wr.heap[w.heap.size+1]?=some (.cells (aI (bW x k)).toArray 56 (0,0))/\Below w.heap.size w wr) (λv _=>3-(intOf v).toNat)
   case atStart =>
    refine⟨0,by omega,rfl,?_,(X0.out.alloc (by simp) _).drew⟩
    have:(((w.alloc (.cells (item7 x) 67)).alloc (.cells (aI (bW x 0)).toArray 56)).drew).heap[(w.alloc (.cells (item7 x) 67)).heap.size]?=some (.cells (aI (bW x 0)).toArray 56 (0,0)):=AsW (w.alloc (.cells (item7 x) 67)) (.cells (aI (bW x 0)).toArray 56)
    simpa [aI,bW,hp,oP] using this
   case' round =>
    obtain⟨k,hk,rfl,hrw,hbel⟩:=hrel
    obtain⟨cl,fz,hgb⟩:=row12 hrw
    have RW:=hid hrw
    clear hrw
    have hk4:k=0∨k=1∨k=2∨k=3:=by omega
    rcases hk4 with rfl|rfl|rfl|rfl
    ·have c0:wr.cell? ⟨w.heap.size+1,3,none⟩=some (.int .i64 0):=cl 3
     have c1:wr.cell? ⟨w.heap.size+1,4,none⟩=some (.int .i64 0):=cl 4
     have c2:wr.cell? ⟨w.heap.size+1,5,none⟩=some (.int .i64 0):=cl 5
     have f0:=fz 3
     have f1:=fz 4
     have f2:=fz 5
     clear cl fz
     have NX:=hid (show (((wr.setCell ⟨w.heap.size+1,3,none⟩ (.int .i64 (-2))).setCell ⟨w.heap.size+1,4,none⟩ (.int .i64 0)).setCell ⟨w.heap.size+1,5,none⟩ (.int .i64 (-1))).heap[w.heap.size+1]?=some (.cells (aI (bW x 1)).toArray 56 (0,0)) from(set3 RW.out 3 4 5 (.int .i64 (-2)) (.int .i64 0) (.int .i64 (-1))).trans (congrArg (λa=>some (Obj.cells a 56 (0,0))) (lD x 0 (by omega))))
     go_wp2
     go_roundw
     case rel=>exact⟨1,by omega,by go_num,NX.out,((hbel.setCell (Nat.le_succ _) _).setCell (Nat.le_succ _) _).setCell (Nat.le_succ _) _⟩
     case measure=>simp[intOf]
    ·have c0:wr.cell? ⟨w.heap.size+1,6,none⟩=some (.int .i64 0):=cl 6
     have c1:wr.cell? ⟨w.heap.size+1,7,none⟩=some (.int .i64 0):=cl 7
     have c2:wr.cell? ⟨w.heap.size+1,8,none⟩=some (.int .i64 0):=cl 8
     have f0:=fz 6
     have f1:=fz 7
     have f2:=fz 8
     clear cl fz
     have NX:=hid (show (((wr.setCell ⟨w.heap.size+1,6,none⟩ (.int .i64 (-2))).setCell ⟨w.heap.size+1,7,none⟩ (.int .i64 0)).setCell ⟨w.heap.size+1,8,none⟩ (.int .i64 (-1))).heap[w.heap.size+1]?=some (.cells (aI (bW x 2)).toArray 56 (0,0)) from(set3 RW.out 6 7 8 (.int .i64 (-2)) (.int .i64 0) (.int .i64 (-1))).trans (congrArg (λa=>some (Obj.cells a 56 (0,0))) (lD x 1 (by omega))))
     go_wp2
     go_roundw
     case rel=>exact⟨2,by omega,by go_num,NX.out,((hbel.setCell (Nat.le_succ _) _).setCell (Nat.le_succ _) _).setCell (Nat.le_succ _) _⟩
     case measure=>simp[intOf]
    ·have c0:wr.cell? ⟨w.heap.size+1,9,none⟩=some (.int .i64 0):=cl 9
     have c1:wr.cell? ⟨w.heap.size+1,10,none⟩=some (.int .i64 0):=cl 10
     have c2:wr.cell? ⟨w.heap.size+1,11,none⟩=some (.int .i64 0):=cl 11
     have f0:=fz 9
     have f1:=fz 10
     have f2:=fz 11
     clear cl fz
     have NX:=hid (show (((wr.setCell ⟨w.heap.size+1,9,none⟩ (.int .i64 (-2))).setCell ⟨w.heap.size+1,10,none⟩ (.int .i64 0)).setCell ⟨w.heap.size+1,11,none⟩ (.int .i64 (-1))).heap[w.heap.size+1]?=some (.cells (aI (bW x 3)).toArray 56 (0,0)) from(set3 RW.out 9 10 11 (.int .i64 (-2)) (.int .i64 0) (.int .i64 (-1))).trans (congrArg (λa=>some (Obj.cells a 56 (0,0))) (lD x 2 (by omega))))
     go_wp2
     go_roundw
     case rel=>exact⟨3,by omega,by go_num,NX.out,((hbel.setCell (Nat.le_succ _) _).setCell (Nat.le_succ _) _).setCell (Nat.le_succ _) _⟩
     case measure=>simp[intOf]
    have RG:=cQ HR.out hbel
    obtain⟨⟨-,-,-,-,S4,-⟩,-,hfz2,hg2⟩:=bA RG
    have f4:=hfz2 4
    have d0:wr.cell? ⟨w.heap.size+1,0,none⟩=some (.string (txt x.name)):=cl 0
    have d1:wr.cell? ⟨w.heap.size+1,1,none⟩=some (.bool (Pl.isPt x)):=cl 1
    rw[hp] at d1
    have d2:wr.cell? ⟨w.heap.size+1,2,none⟩=some (.int .i64 x.n):=cl 2
    have d3:wr.cell? ⟨w.heap.size+1,3,none⟩=some (.int .i64 (-2)):=cl 3
    have d4:wr.cell? ⟨w.heap.size+1,4,none⟩=some (.int .i64 0):=cl 4
    have d5:wr.cell? ⟨w.heap.size+1,5,none⟩=some (.int .i64 (-1)):=cl 5
    have d6:wr.cell? ⟨w.heap.size+1,6,none⟩=some (.int .i64 (-2)):=cl 6
    have d7:wr.cell? ⟨w.heap.size+1,7,none⟩=some (.int .i64 0):=cl 7
    have d8:wr.cell? ⟨w.heap.size+1,8,none⟩=some (.int .i64 (-1)):=cl 8
    have d9:wr.cell? ⟨w.heap.size+1,9,none⟩=some (.int .i64 (-2)):=cl 9
    have d10:wr.cell? ⟨w.heap.size+1,10,none⟩=some (.int .i64 0):=cl 10
    have d11:wr.cell? ⟨w.heap.size+1,11,none⟩=some (.int .i64 (-1)):=cl 11
    have e9:=fz 9
    have hbz:=hbel.size
    have HBW:=hid hbel
    have OW:=hid (aA HS.out hbel)
    clear cl fz hfz2 hfz k0 k1 k2 k3 k4 k5 k6 K4 s4 hbel RG
    go_wp2_with fail
    go_wp2_with fail
  focus
   have RL:wr.heap[w.heap.size+1]?=some (.cells (aQ.enc (fO x)).toArray 56 (0,0)):=by
    have e:(aI (bW x 3)).toArray=(aQ.enc (fO x)).toArray:=by simp[aI,bW,fO,aQ,hp,Pl.openE]
    rw[<-e];exact RW.out
   have HBE:=HBW.out
   clear d0 d1 d2 d3 d4 d5 d6 d7 d8 d9 d10 d11 e9 S4 f4 HBW OW RW hgb hg2 hbz
   generalize wr=WR at RL HBE ⊢
  rotate_left
  focus
   have RL:=AtA _ _ 9 _ _ (.int .i64 (-1)) RW.out
   rw[show (aI (bW x 3)).toArray.setIfInBounds 9 (.int .i64 (-1))=(aQ.enc (fO x)).toArray from by simp[aI,bW,fO,aQ,hp,Pl.openE,Pl.stop]] at RL
   have HBE:=HBW.out.setCell (p:=⟨w.heap.size+1,9,none⟩) (Nat.le_succ _) (.int .i64 (-1))
   clear d0 d1 d2 d3 d4 d5 d6 d7 d8 d9 d10 d11 e9 S4 f4 HBW OW RW hgb hg2 hbz
   generalize wr.setCell ⟨w.heap.size+1,9,none⟩ (.int .i64 (-1))=WR at RL HBE ⊢
  all_goals
   obtain⟨s,hs⟩:∃ s,fO x=s:=⟨_,rfl⟩
   have HSX:=hid hs
   rw[hs] at RL
   clear hs
   have hbz:=HBE.size
   have RG:=(HBE.block g hg).trans HR.out
   obtain⟨⟨-,-,-,-,S4,-⟩,-,hfz2,hg2⟩:=bA RG
   have f4:=hfz2 4
   obtain⟨cl,-,hgb⟩:=row12 RL
   have d0:WR.cell? ⟨w.heap.size+1,0,none⟩=some (.string (txt s.name)):=cl 0
   have d1:WR.cell? ⟨w.heap.size+1,1,none⟩=some (.bool s.pt):=cl 1
   have d2:WR.cell? ⟨w.heap.size+1,2,none⟩=some (.int .i64 s.len):=cl 2
   have d3:WR.cell? ⟨w.heap.size+1,3,none⟩=some (.int .i64 s.e0.goes):=cl 3
   have d4:WR.cell? ⟨w.heap.size+1,4,none⟩=some (.int .i64 s.e0.at_):=cl 4
   have d5:WR.cell? ⟨w.heap.size+1,5,none⟩=some (.int .i64 s.e0.sig):=cl 5
   have d6:WR.cell? ⟨w.heap.size+1,6,none⟩=some (.int .i64 s.e1.goes):=cl 6
   have d7:WR.cell? ⟨w.heap.size+1,7,none⟩=some (.int .i64 s.e1.at_):=cl 7
   have d8:WR.cell? ⟨w.heap.size+1,8,none⟩=some (.int .i64 s.e1.sig):=cl 8
   have d9:WR.cell? ⟨w.heap.size+1,9,none⟩=some (.int .i64 s.e2.goes):=cl 9
   have d10:WR.cell? ⟨w.heap.size+1,10,none⟩=some (.int .i64 s.e2.at_):=cl 10
   have d11:WR.cell? ⟨w.heap.size+1,11,none⟩=some (.int .i64 s.e2.sig):=cl 11
   have OW:=hid (aA HS.out HBE)
   have NW:=hid (show ∀ j u,(aQ.enc s)[j]?=some u->(WR.drew.alloc (.cells (aQ.enc s).toArray 56)).cell? ((⟨WR.heap.size,0,none⟩:Addr).add j)=some u from
    λj u hu=>World.news_of_block (B:=WR.heap.size) (cs:=(aQ.enc s).toArray) (t:=56) (fr:=(0,0)) (AsW WR.drew (.cells (aQ.enc s).toArray 56)) j u (by simpa using hu))
   have hRG:some g≠(Value.slice A (Pl.wS M).length cp).ownBlock:=λe=>by have:=(OW.out.lt g e.symm).1;omega
   have HX:=hid hRG
   have RGh:=hid RG
   clear cl hfz2 RL hRG RG
   go_region_law (refine step_append_lies _ (by rfl) (.tmp 52) (.tmp 54) 22 (by rfl) (g+1) 56 i0 _ 12 104 Tryz.underlying22 hi hz0 hz1 hz2 rfl (by decide) (.slice A (Pl.wS M).length cp) (Pl.wS M).length (aQ.all (Pl.wS M)) (by rfl) (OW.out.drew.alloc _) ⟨WR.heap.size,0,none⟩ 1 1 (aQ.enc s) (by rfl) (by rfl) NW.out (aQ.one s) (by omega) (by unfold maxLen;omega) (by omega) (by simp;omega) _ rfl ?_;intro g' cap' w2 hown hgr hg' hlt2;have hr2:=(hgr.block g (by simp;omega) HX.out).trans ((heap_alloc_old _ _ (show g<WR.drew.heap.size from hg2)).trans RGh.out);have c2:=(bA hr2).1.2.2.2.2.1;have f2:=(bA hr2).2.2.1 4)
   all_goals go_wp2_with fail
   all_goals go_ret
   all_goals (rw[<-HSX.out] at hown;have WS:=WorkAt.sections HR.out HS.out HG.out HA.out (HBE.drew.alloc HBE.size (.cells (aQ.enc s).toArray 56)) hgr rfl hown (by rcases hg' with h|h;exact .inl h;exact .inr (by rw[h];simp;omega)) HK.out HE1.out HE2.out;exact⟨rfl,λ_=>WS.1,WS.2⟩)
 rw[hf] at FN
 have hin:x.name∈Pl.nmS M:=Pl.mem_nmS.2 ⟨y,ArX hy,hn⟩
 rw[ArZ hin]
 clear hf hy hn hin hR hS hG hap hM hl hcap
 go_enter Tryz.func51,Tryz.ntmps51
 go_wp2_with fail
 go_region_held3 (λw'=>w'.cell? ⟨g,4,none⟩=some (.slice A (Pl.wS M).length cp)/\w'.cell? ⟨w.heap.size,1,none⟩=some (.string (txt x.name)))
  (first|exact⟨K4,k1⟩|exact⟨(hcell _ _ g1).trans K4,(hcell _ _ g2).trans k1⟩)
  (first
   | (go_at_call 55;(with_reducible refine(FN.out _ X0.out.drew).mono ?_);rintro e w' ⟨rfl,rfl⟩))
 all_goals go_wp2_with fail
 all_goals go_ret
 all_goals exact⟨rfl,λh=>by simp at h,XG.out.drew⟩
theorem cM {e:Nat} (he:e<3) (v:Int) (s:Pl.Sec):(aI s).set (3+e*3) (.int .i64 v)=aI (Pl.Sec.setTo e v s):=by
 have:e=0∨e=1∨e=2:=by omega
 rcases this with rfl|rfl|rfl <;> rfl
theorem lY {e:Nat} (he:e<3) (v:Int) (s:Pl.Sec):(aI s).set (3+e*3+1) (.int .i64 v)=aI (Pl.Sec.setAt e v s):=by
 have:e=0∨e=1∨e=2:=by omega
 rcases this with rfl|rfl|rfl <;> rfl
theorem fP {e:Nat} (he:e<3) (v:Int) (s:Pl.Sec):(aI s).set (3+e*3+2) (.int .i64 v)=aI (Pl.Sec.setSig e v s):=by
 have:e=0∨e=1∨e=2:=by omega
 rcases this with rfl|rfl|rfl <;> rfl
theorem oQ (L:List Pl.Sec) (i j:Nat) (F:Pl.Sec->Pl.Sec) (s:Pl.Sec) (hs:L[i]?=some s) (hj:j<12) (u:Value) (hu:(aI s).set j u=aI (F s)):(aQ.all L).set (i*12+j) u=aQ.all (L.modify i F):=by
 have e:L.modify i F=L.set i (F s):=by
  apply List.ext_getElem?
  intro k
  rw[Pl.modify_at,List.getElem?_set]
  obtain⟨hi,h2⟩:=ArM hs
  by_cases hik:i=k
  ·subst hik
   rw[ArZ rfl,ArZ rfl,hs,ArZ hi];rfl
  rw[ArY hik,ArY hik]
 rw[e]
 exact Lies.set_cell (E:=aQ) L i j s (F s) hs hj u hu
theorem AbA {s:Pl.Sec} {e f:Nat} (he:e<3) (hf:f<3) (h:e≠f) (a:Pl.En):(s.put e a).get f=s.get f:=by
 have:e=0∨e=1∨e=2:=by omega
 have:f=0∨f=1∨f=2:=by omega
 rcases ‹e=0∨e=1∨e=2› with rfl|rfl|rfl <;> rcases ‹f=0∨f=1∨f=2› with rfl|rfl|rfl <;> first|rfl|exact absurd rfl h
theorem nD {s:Pl.Sec} {e:Nat} (he:e<3) (a:Pl.En):(s.put e a).get e=a:=by
 have:e=0∨e=1∨e=2:=by omega
 rcases this with rfl|rfl|rfl <;> rfl
theorem AbB (s:Pl.Sec) (e:Nat) (a:Pl.En):(s.put e a).pt=s.pt/\(s.put e a).name=s.name:=by
 unfold Pl.Sec.put
 split
 ·exact⟨rfl,rfl⟩
 split <;> exact⟨rfl,rfl⟩
theorem AgN {L:List Pl.Sec} {i j e f:Nat} {s t:Pl.Sec} (hs:L[i]?=some s) (ht:L[j]?=some t) (he:e<3) (hf:f<3) (hne:i=j->e≠f) (a b c d p q:Int) (hp:(s.get e).sig=p) (hq:(t.get f).sig=q) :
 ((((L.modify i (Pl.Sec.setTo e (-1))).modify i (Pl.Sec.setTo e a)).modify i (Pl.Sec.setAt e b)).modify j (Pl.Sec.setTo f c)).modify j (Pl.Sec.setAt f d)=(L.modify i (λs=>s.put e ⟨a,b,p⟩)).modify j (λs=>s.put f ⟨c,d,q⟩):=by
 subst hp hq
 have he':e=0∨e=1∨e=2:=by omega
 have hf':f=0∨f=1∨f=2:=by omega
 apply List.ext_getElem?
 intro k
 simp only[Pl.modify_at]
 by_cases hi:i=k
 ·subst hi
  simp only[if_true]
  by_cases hj:j=i
  ·subst hj
   have:=hne rfl
   rw[hs] at ht
   cases ht
   simp only[if_true,hs,Option.map_some]
   congr 1
   rcases he' with rfl|rfl|rfl <;> rcases hf' with rfl|rfl|rfl <;> first|rfl|exact absurd rfl this
  simp only[ArY hj,hs,Option.map_some]
  congr 1
  rcases he' with rfl|rfl|rfl <;> rfl
 simp only[ArY hi]
 by_cases hj:j=k
 ·subst hj
  simp only[if_true,ht,Option.map_some]
  congr 1
  rcases hf' with rfl|rfl|rfl <;> rfl
 simp only[ArY hj]
theorem oR {M:List It.Itm} (hM:Pl.Ok M) {t:It.Tp} {a b c:Int} (h:FreeIs (Pl.wS M) t (a,b,c)):c=Pl.tipErr M (Pl.ments M) t /\
 (c=0->∃ (i e:Nat) (y:It.Itm),a=i/\b=e/\(Pl.secs M)[i]?=some y/\e<Pl.nEnds (Pl.isPt y)/\t=Pl.tip y e):=by
 have nm:∀ i s,Pl.find (Pl.wS M) t.n=(i:Nat)->(Pl.wS M)[i]?=some s->∃ y,(Pl.secs M)[i]?=some y/\s=Pl.secG (Pl.gW M) y/\y.name=t.n/\t.n∈Pl.nmS M/\Pl.ptOf M t.n=Pl.isPt y:=λi s hf hs=>by
  rcases Pl.find_wS (M:=M) t.n with ⟨_,h⟩|⟨k,y,h,hy,hn⟩
  ·rw[h] at hf;omega
  rw[h] at hf
  obtain rfl:k=i:=by omega
  rw[Pl.wS_of hy] at hs
  cases hs
  have hm:=ArX hy
  exact⟨y,hy,rfl,hn,Pl.mem_nmS.2 ⟨y,hm,hn⟩,by rw[<-hn];exact Pl.ptOf_eq hM.names hm⟩
 cases h with
 | none hf =>
   refine⟨?_,λh=>by cases h⟩
   rcases Pl.find_wS (M:=M) t.n with ⟨hn,_⟩|⟨k,y,h,_⟩
   ·unfold Pl.tipErr;rw[ArZ hn]
   rw[h] at hf;omega
 | noEnd i s hf hs he =>
   refine⟨?_,λh=>by cases h⟩
   obtain⟨y,hy,rfl,hn,hm,hp⟩:=nm i s hf hs
   unfold Pl.tipErr
   rw[ArY (λh=>h hm),hp,ArZ (show Pl.endAt (Pl.isPt y) t.c=none from he)]
 | used i e s hf hs he ht =>
   refine⟨?_,λh=>by cases h⟩
   obtain⟨y,hy,rfl,hn,hm,hp⟩:=nm i s hf hs
   have he':Pl.endAt (Pl.isPt y) t.c=some e:=he
   obtain⟨hl,hlt⟩:=Pl.letter_endAt he'
   have tt:t=Pl.tip y e:=by cases t;simp at hn hl;simp[Pl.tip,hn,hl]
   rw[Pl.get_secG _ hlt] at ht
   have hin:t∈Pl.ments M:=Pl.partner_ments λhc=>ht (by rw[tt] at hc;simp[Pl.gW,Pl.enW,hc])
   unfold Pl.tipErr
   rw[ArY (λh=>h hm),hp,he',ArY (by simp),ArZ hin]
 | free i e s hf hs he ht =>
   obtain⟨y,hy,rfl,hn,hm,hp⟩:=nm i s hf hs
   have he':Pl.endAt (Pl.isPt y) t.c=some e:=he
   obtain⟨hl,hlt⟩:=Pl.letter_endAt he'
   have tt:t=Pl.tip y e:=by cases t;simp at hn hl;simp[Pl.tip,hn,hl]
   rw[Pl.get_secG _ hlt] at ht
   have hno:t ∉ Pl.ments M:=λhc=>by
    cases hpt:Pl.partner M (Pl.tip y e) with
    | none=>exact Pl.partner_none.1 hpt (by rw[<-tt];exact hc)
    | some v =>
      simp only[Pl.gW,Pl.enW,hpt] at ht
      cases v with
      | none=>cases ht
      | some u =>
        have:0<=Pl.pos (Pl.nmS M) u.n:=by unfold Pl.pos;omega
        simp only at ht
        omega
   refine⟨?_,λ_=>⟨i,e,y,rfl,rfl,hy,hlt,tt⟩⟩
   exact(Pl.tipErr_zero.2 ⟨hm,by rw[hp,he'];rfl,hno⟩).symm
theorem qI {M:List It.Itm} {i e:Nat} {y:It.Itm} (hM:Pl.Ok M) (hy:(Pl.secs M)[i]?=some y) (he:e<Pl.nEnds (Pl.isPt y)) (h0:Pl.tip y e ∉ Pl.ments M) {u:It.Tp} {a b c:Int}
 (h:FreeIs ((Pl.wS M).modify i (Pl.Sec.setTo e (-1))) u (a,b,c)):c=Pl.tipErr M (Pl.ments M++[Pl.tip y e]) u /\
 (c=0->∃ (j f:Nat) (z:It.Itm),a=j/\b=f/\(Pl.secs M)[j]?=some z/\f<Pl.nEnds (Pl.isPt z)/\u=Pl.tip z f/\u≠Pl.tip y e/\u ∉ Pl.ments M):=by
 have he3:e<3:=by unfold Pl.nEnds at he;split at he <;> omega
 have names:∀ k s,((Pl.wS M).modify i (Pl.Sec.setTo e (-1)))[k]?=some s->∃ s0,(Pl.wS M)[k]?=some s0/\s.name=s0.name/\s.pt=s0.pt/\(∀ f,f<3->(k=i->f≠e)->s.get f=s0.get f)/\(k=i->(s.get e).goes = -1):=λk s hk=>by
  rw[Pl.modify_at] at hk
  by_cases hik:i=k
  ·subst hik
   rw[ArZ rfl,Option.map_eq_some_iff] at hk
   obtain⟨s0,h1,rfl⟩:=hk
   refine⟨s0,h1,(AbB _ _ _).2,(AbB _ _ _).1,λf hf hne=>AbA he3 hf (λh=>hne rfl h.symm) _,λ_=>?_⟩
   unfold Pl.Sec.setTo
   rw[nD he3]
  rw[ArY hik] at hk
  exact⟨s,hk,rfl,rfl,λ_ _ _=>rfl,λh=>absurd h.symm hik⟩
 have findE:Pl.find ((Pl.wS M).modify i (Pl.Sec.setTo e (-1))) u.n=Pl.find (Pl.wS M) u.n:=by
  have : ((Pl.wS M).modify i (Pl.Sec.setTo e (-1))).map Pl.Sec.name=(Pl.wS M).map Pl.Sec.name:=by
   apply List.ext_getElem?
   intro k
   rw[List.getElem?_map,List.getElem?_map,Pl.modify_at]
   by_cases hik:i=k
   ·rw[ArZ hik]
    cases (Pl.wS M)[k]? with
    | none=>rfl
    | some s=>simp only[Option.map_some];rw[show (Pl.Sec.setTo e (-1) s).name=s.name from(AbB _ _ _).2]
   rw[ArY hik]
  have gen:∀ l:List Pl.Sec,(l.findIdx? λs=>decide (s.name=u.n))=(l.map Pl.Sec.name).findIdx? λa=>decide (a=u.n):=λl=>by
   rw[List.findIdx?_map];rfl
  unfold Pl.find
  rw[gen,gen,this]
 have old:∀ k s,((Pl.wS M).modify i (Pl.Sec.setTo e (-1)))[k]?=some s->Pl.find (Pl.wS M) u.n=(k:Nat)->∃ z,(Pl.secs M)[k]?=some z/\s.pt=Pl.isPt z/\z.name=u.n/\u.n∈Pl.nmS M/\Pl.ptOf M u.n=Pl.isPt z/\(∀ f,f<Pl.nEnds (Pl.isPt z)->(k=i->f≠e)->s.get f=Pl.gW M (Pl.tip z f))/\(k=i->(s.get e).goes = -1):=λk s hk hf=>by
  obtain⟨s0,h1,h2,h3,h4,h5⟩:=names k s hk
  obtain⟨z,hz,rfl⟩:=Pl.wS_at h1
  rcases Pl.find_wS (M:=M) u.n with ⟨_,h⟩|⟨k',z',h,hz',hn⟩
  ·rw[h] at hf;omega
  rw[h] at hf
  obtain rfl:k'=k:=by omega
  rw[hz] at hz'
  cases hz'
  have hm:=ArX hz
  refine⟨z,hz,h3,hn,Pl.mem_nmS.2 ⟨z,hm,hn⟩,by rw[<-hn];exact Pl.ptOf_eq hM.names hm,λf hf hne=>?_,h5⟩
  have hf3:f<3:=by unfold Pl.nEnds at hf;split at hf <;> omega
  rw[h4 f hf3 hne,Pl.get_secG _ hf]
 cases h with
 | none hf =>
   rw[findE] at hf
   refine⟨?_,λh=>by cases h⟩
   rcases Pl.find_wS (M:=M) u.n with ⟨hn,_⟩|⟨k,y,h,_⟩
   ·unfold Pl.tipErr;rw[ArZ hn]
   rw[h] at hf;omega
 | noEnd k s hf hs hend =>
   rw[findE] at hf
   refine⟨?_,λh=>by cases h⟩
   obtain⟨z,hz,hp0,hn,hm,hp,_⟩:=old k s hs hf
   unfold Pl.tipErr
   rw[ArY (λh=>h hm),hp,ArZ (by rw[<-hp0];exact hend)]
 | used k f s hf hs hend ht =>
   rw[findE] at hf
   refine⟨?_,λh=>by cases h⟩
   obtain⟨z,hz,hp0,hn,hm,hp,hg,_⟩:=old k s hs hf
   rw[hp0] at hend
   obtain⟨hl,hlt⟩:=Pl.letter_endAt hend
   have tt:u=Pl.tip z f:=by cases u;simp at hn hl;simp[Pl.tip,hn,hl]
   have hin:u∈Pl.ments M++[Pl.tip y e]:=by
    by_cases hsame:k=i/\f=e
    ·obtain⟨rfl,rfl⟩:=hsame
     rw[hy] at hz
     cases hz
     rw[tt];simp
    have:=hg f hlt λh1 h2=>hsame ⟨h1,h2⟩
    rw[this] at ht
    exact List.mem_append_left _ (Pl.partner_ments λhc=>ht (by rw[tt] at hc;simp[Pl.gW,Pl.enW,hc]))
   unfold Pl.tipErr
   rw[ArY (λh=>h hm),hp,hend,ArY (by simp),ArZ hin]
 | free k f s hf hs hend ht =>
   rw[findE] at hf
   obtain⟨z,hz,hp0,hn,hm,hp,hg,h1⟩:=old k s hs hf
   rw[hp0] at hend
   obtain⟨hl,hlt⟩:=Pl.letter_endAt hend
   have tt:u=Pl.tip z f:=by cases u;simp at hn hl;simp[Pl.tip,hn,hl]
   have hsame:¬ (k=i/\f=e):=λ⟨a,b⟩=>by subst b;rw[h1 a] at ht;cases ht
   have hg':=hg f hlt λh1 h2=>hsame ⟨h1,h2⟩
   rw[hg'] at ht
   have hno:u ∉ Pl.ments M:=λhc=>by
    cases hpt:Pl.partner M (Pl.tip z f) with
    | none=>exact Pl.partner_none.1 hpt (by rw[<-tt];exact hc)
    | some v =>
      simp only[Pl.gW,Pl.enW,hpt] at ht
      cases v with
      | none=>cases ht
      | some u' =>
        have:0<=Pl.pos (Pl.nmS M) u'.n:=by unfold Pl.pos;omega
        simp only at ht
        omega
   have hne:u≠Pl.tip y e:=λhc=>by
    rw[tt] at hc
    have hnm:z.name=y.name:=congrArg It.Tp.n hc
    have hzy:=Pl.uniq hM.names (ArX hz) (ArX hy) hnm
    subst hzy
    have hk:(k:Int)=i:=by rw[<-Pl.pos_sec hM.names hz,<-Pl.pos_sec hM.names hy]
    exact hsame ⟨by omega,Pl.letter_inj hlt he (congrArg It.Tp.c hc)⟩
   refine⟨?_,λ_=>⟨k,f,z,rfl,rfl,hz,hlt,tt,hne,hno⟩⟩
   exact(Pl.tipErr_zero.2 ⟨hm,by rw[hp,hend];rfl,by simp[hno,hne]⟩).symm
def WorkX (tw tS tG:TypeId) (w:World) (g:Nat) (M:List It.Itm) (vS vG:Value) (LS:List Pl.Sec) (LG:List Pl.Sig):Prop :=
 w.heap[g]?=some (.cells (aO M vS vG) tw (0,0))/\w.ownsRow (g+1) tS aQ.m vS LS.length (aQ.all LS)/\w.ownsRow (g+1) tG bD.m vG LG.length (bD.all LG)/\∀ k,vS.ownBlock=some k->vG.ownBlock≠some k
theorem WorkX.below {tw tS tG:TypeId} {w w':World} {g:Nat} {M:List It.Itm} {vS vG:Value} {LS:List Pl.Sec} {LG:List Pl.Sig} (h:WorkX tw tS tG w g M vS vG LS LG) (hb:Below w.heap.size w w'):WorkX tw tS tG w' g M vS vG LS LG:=by
 obtain⟨h1,h2,h3,h4⟩:=h
 exact⟨(hb.block _ (ArL h1).1).trans h1,aA h2 hb,aA h3 hb,h4⟩
theorem WorkX.drew {tw tS tG:TypeId} {w:World} {g:Nat} {M:List It.Itm} {vS vG:Value} {LS:List Pl.Sec} {LG:List Pl.Sig} (h:WorkX tw tS tG w g M vS vG LS LG):WorkX tw tS tG w.drew g M vS vG LS LG :=
 ⟨h.1,h.2.1.drew,h.2.2.1.drew,h.2.2.2⟩
theorem WorkX.store {tw tS tG:TypeId} {w:World} {g gb n cap:Nat} {M:List It.Itm} {vG:Value} {LS:List Pl.Sec} {LG:List Pl.Sig} (h:WorkX tw tS tG w g M (.slice (some ⟨gb,0,none⟩) n cap) vG LS LG) {i j:Nat} {s:Pl.Sec} (hs:LS[i]?=some s) (hj:j<12) (F:Pl.Sec->Pl.Sec) (u:Value) (hu:(aI s).set j u=aI (F s)) :
 WorkX tw tS tG (w.setCell ⟨gb,i*12+j,none⟩ u) g M (.slice (some ⟨gb,0,none⟩) n cap) vG (LS.modify i F) LG:=by
 obtain⟨h1,h2,h3,h4⟩:=h
 have hn:n=LS.length:=by
  rcases h2.2 with ⟨h,_⟩|⟨g',cap',cur,h,_⟩
  ·cases h
  cases h;rfl
 subst hn
 have hgb:=h2.lt gb rfl
 have hne:gb≠g:=by omega
 refine⟨?_,?_,?_,h4⟩
 ·rw[AsX _ ⟨gb,i*12+j,none⟩ g u (by simpa using λe=>hne e.symm)];exact h1
 ·have:=(h2.stored (i*12+j) u).1
  rw[oQ LS i j F s hs hj u hu] at this
  rw[List.length_modify]
  exact this
 refine aL h3 λb hb=>AsX _ ⟨gb,i*12+j,none⟩ b u ?_
 have:=h4 gb rfl
 simpa using λe=>this (by rw[hb,e])
theorem WorkX.slice {tw tS tG:TypeId} {w:World} {g:Nat} {M:List It.Itm} {vS vG:Value} {LS:List Pl.Sec} {LG:List Pl.Sig} (h:WorkX tw tS tG w g M vS vG LS LG) (hn:0<LS.length):∃ gb cap,vS=.slice (some ⟨gb,0,none⟩) LS.length cap:=by
 obtain⟨gb,cap,e,_⟩:=h.2.1.form hn
 exact⟨gb,cap,e⟩
theorem WorkX.reads {tw tS tG:TypeId} {w:World} {g gb n cap:Nat} {M:List It.Itm} {vG:Value} {LS:List Pl.Sec} {LG:List Pl.Sig} (h:WorkX tw tS tG w g M (.slice (some ⟨gb,0,none⟩) n cap) vG LS LG) {i e:Nat} {s:Pl.Sec} (hs:LS[i]?=some s) (he:e<3) :
 w.cell? ⟨g,4,none⟩=some (.slice (some ⟨gb,0,none⟩) n cap)/\w.cell? ⟨gb,i*12+3+e*3,none⟩=some (.int .i64 (s.get e).goes)/\w.cell? ⟨gb,i*12+3+e*3+1,none⟩=some (.int .i64 (s.get e).at_)/\w.cell? ⟨gb,i*12+3+e*3+2,none⟩=some (.int .i64 (s.get e).sig) /\
  (∀ o,w.frozen? ⟨gb,o,none⟩=false)/\g<w.heap.size/\gb<w.heap.size/\g<gb/\n=LS.length:=by
 obtain⟨h1,h2,h3,h4⟩:=h
 have hn:n=LS.length:=by
  rcases h2.2 with ⟨h,_⟩|⟨g',cap',cur,h,_⟩
  ·cases h
  cases h;rfl
 subst hn
 have on:=Lies.own_on h2 hs
 have hgb:=h2.lt gb rfl
 exact⟨(bA h1).1.2.2.2.2.1,xD on he,AoY on he,AaV on he,λo=>h2.frozenAt o,(bA h1).2.2.2,hgb.2,by omega,rfl⟩
theorem fB {t:It.Tp} (h:Pl.TipG t):t.c≠0:=λe=>by
 have:=h.2
 rw[e] at this
 cases this
theorem AbC (g:Nat) (M:List It.Itm) (x:It.Itm) (w:World) (h:WorkAt 73 56 58 w g M) (hM:Pl.Ok M) (hr:It.right x=true) (h8:x.k=8) :
 Calls Tryz.prog 52 #[.pointer (some ⟨g,0,none⟩),lW x] w (dX 73 56 58 g M x (Pl.tipErr M (Pl.ments M) x.e0) w):=by
 have hc0:=fB (Pl.right_stop hr h8).2
 have hl:(Pl.wS M).length<=1000000:=by rw[Pl.wS_len];have:=hM.few;omega
 obtain⟨vS,vG,hX⟩:∃ vS vG,WorkX 73 56 58 w g M vS vG (Pl.wS M) (Pl.wG M):=h
 have hg:=(ArL hX.1).1
 have X0:=hid ((AtB w).alloc (ArR _) (.cells (item7 x) 67))
 obtain⟨⟨k0,k1,k2,k3,k4,k5,k6⟩,-,g2⟩:=row7 (show (w.alloc (.cells (item7 x) 67)).heap[w.heap.size]?=some (.cells #[.int .i64 x.k,.string (txt x.name),.int .i64 x.n,.string (txt x.e0.n),.int .u8 x.e0.c.toNat,.string (txt x.e1.n),.int .u8 x.e1.c.toNat] 67 (0,0)) from AsW _ _)
 have FR:=hid (iZ g M (Pl.wS M) (Pl.wG M) x.e0 (w.alloc (.cells (item7 x) 67)) ⟨vS,vG,hX.below X0.out⟩ hl hc0)
 have hk8:(x.k == 8)=true:=by rw[beq_iff_eq];exact h8
 have HX:=hid hX
 have H8:=hid h8
 clear hX hc0 hl h8
 go_enter Tryz.func52,Tryz.ntmps52
 go_wp2_with fail
 refine FR.out.mono ?_;rintro e w1 ⟨a,b,c,rfl,hfree,hb1⟩
 obtain⟨hcE,hcs⟩:=oR hM hfree
 have hb01:=X0.out.trans (hb1.mono X0.out.size)
 have hB:=hid (hb01.mono (Nat.le_of_lt hg))
 by_cases hc:c=0
 ·obtain⟨i,e,y,rfl,rfl,hy,he,ht⟩:=hcs hc
  subst hc
  have he3:e<3:=by unfold Pl.nEnds at he;split at he <;> omega
  have hX1:=HX.out.below hb01
  have hi:=(ArM (Pl.wS_of hy)).1
  obtain⟨gb,cap,rfl⟩:=hX1.slice (by omega)
  obtain⟨s4,t0,-,-,fz,g1,gb1,ggb,-⟩:=hX1.reads (Pl.wS_of hy) he3
  have f0:=fz (i*12+3+e*3)
  have hm:x.e0 ∉ Pl.ments M:=(Pl.tipErr_zero.1 hcE.symm).2.2
  obtain⟨e1,e2⟩:=Pl.w_stop hM H8.out hm hy he ht
  have kk0:=(hb1.cell (show (⟨w.heap.size,0,none⟩:Addr).block<(w.alloc (.cells (item7 x) 67)).heap.size from g2)).trans k0
  have kne:w.heap.size≠gb:=λe=>by have:=(HX.out.2.1.lt gb rfl).2;omega
  have st:=hX1.store (Pl.wS_of hy) (j:=3+e*3) (by omega) (Pl.Sec.setTo e (-1)) (.int .i64 (-1)) (cM he3 (-1) _)
  rw[<-Nat.add_assoc] at st
  have ST:=hid st
  have BF:=hid (hB.out.setCell (p:=⟨gb,i*12+3+e*3,none⟩) (Nat.le_of_lt ggb) (.int .i64 (-1)))
  have hCE:=hid hcE
  have E1:=hid e1
  have E2:=hid e2
  clear st hfree hcs hb1 hb01 hX1 hy ht e1 e2 hm hcE hM fz
  go_wp2
  go_ret
  refine⟨by rw[<-hCE.out];rfl,λ_=>?_,BF.out⟩
  refine⟨.slice (some ⟨gb,0,none⟩) (Pl.wS M).length cap,vG,?_,?_,?_,?_⟩
  ·rw[jA (by unfold It.isNum;rw[H8.out];decide)];exact ST.out.1
  ·rw[E1.out];exact ST.out.2.1
  ·rw[E2.out];exact ST.out.2.2.1
  exact ST.out.2.2.2
 have hcn:(c != 0)=true:=by rw[AsV];exact hc
 have hCE:=hid hcE
 clear hfree hcs hb1 hb01 hcE hM
 go_wp2
 go_ret
 exact⟨by rw[<-hCE.out];rfl,λh=>absurd (hCE.out.trans h) hc,hB.out⟩
end Go.Proofs.YtjofpclmbjpgjaaGreat
