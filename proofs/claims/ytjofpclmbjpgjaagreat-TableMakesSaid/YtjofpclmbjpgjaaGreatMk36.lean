/- Lemmas. -/
import Derived.Test.YtjofpclmbjpgjaaGreatMk20
import Derived.Test.YtjofpclmbjpgjaaGreatMk35
import Derived.Laws.Bits64b
import Derived.Laws.CopyOwn
import Derived.Lib.MinMax
set_option maxHeartbeats 16000000
set_option maxRecDepth 100000
namespace Go.Proofs.YtjofpclmbjpgjaaGreat
open Lib (hid)
open Go.RowKit
section
variable {P : Program}
theorem gQ (w:World) (dT sT ty elem:TypeId) (g o dLen dCap:Nat) (a:Addr) (sLen sCap m:Nat) (cur:Array Value) (t:TypeId) (cs:List Value)
 (hu:P.underlying dT=some (.slice elem)) (hs:(P.info? elem).map (·.size)=some m)
 (hg:w.heap[g]?=some (.cells cur t (0,0))) (hn:cs.length=Nat.min sLen dLen*m)
 (hsrc:∀ j v,cs[j]?=some v->w.cell? (a.add j)=some v) (hfit:o+cs.length<=cur.size) (h1:∀ v∈cs,v.oneCell'=true) :
 (Builtin.copy_ #[dT,sT] ty #[.slice (some ⟨g,o,none⟩) dLen dCap,.slice (some a) sLen sCap]).run P w =
  .ok (goInt (Nat.min sLen dLen)) (w.setRow g (cur.toList.take o++cs++cur.toList.drop (o+cs.length)).toArray):=by
 have hl:=run_loadCells_list (P:=P) w a cs hsrc
 have hst:=run_storeCells_at P g o t cs 0 cur w hg (by simpa using hfit) h1
 cases hq:P.info? elem with
 | none=>simp[hq] at hs
 | some i =>
   have hi:i.size=m:=by simpa [hq] using hs
   simp[Builtin.copy_,run_underlying hu,Builtin.lenOf,Builtin.firstCells,Go.sizeOf,typeInfo,hq,hi,<-hn,hl,hst]
end
theorem AcY (a:Nat) (ha:a<18446744073709551616):bits .and .u64 (a:Int) 4294967295=((a % 4294967296:Nat):Int):=by
 have h:=bits_and_u64_nat a 4294967295 ha (by omega)
 have e:a &&& 4294967295=a % 4294967296:=Nat.and_two_pow_sub_one_eq_mod a 32
 rw[e] at h
 exact h
theorem zB (n:Nat) (hn:n<=24) (w:World) :
 Calls Tryz.prog 183 #[.int .u64 1,.int .u64 n] w λe w'=>e=.returned (.tuple #[.int .u64 0,.int .u64 n])/\w'=w:=by
 have m1:bits .and .u64 1 4294967295=1:=AcY 1 (by omega)
 have m2:bits .and .u64 (n:Int) 4294967295=(n:Int):=by rw[AcY n (by omega),Nat.mod_eq_of_lt (by omega)]
 have m3:bits .and .u64 0 4294967295=0:=AcY 0 (by omega)
 have z0:IntKind.u64.wrap (IntKind.u64.wrap 0 / 4294967296)=0:=by decide
 have d1:(n:Int) / 4294967296=0:=by omega
 have w0:IntKind.u64.wrap (n:Int)=(n:Int):=by rw[IntKind.wrap_u64];omega
 go_enter Tryz.func183,Tryz.ntmps183
 go_wp2_with fail
 refine bodyPost_ret ?_ rfl ⟨rfl,rfl⟩
 simp[results,Tryz.results183,go_sem]
theorem AhY (n:Nat) (hn:n<=24) (w:World) :
 Calls Tryz.prog 171 #[.int .u64 1,.int .u64 n] w λe w'=>e=.returned (.tuple #[.int .u64 0,.int .u64 n])/\w'=w:=by
 have CM:=hid (zB n hn w)
 go_enter Tryz.func171,Tryz.ntmps171
 go_wp2_with fail
 refine CM.out.mono ?_;rintro e w' ⟨rfl,rfl⟩
 go_wp2_with fail
 refine bodyPost_ret ?_ rfl ⟨rfl,rfl⟩
 simp[results,Tryz.results171,go_sem]
theorem AhZ (g:Nat) (x y z:Int) (w:World) (h:w.heap[g]?=some (.cells #[.int .i64 x,.int .i64 y,.int .i64 z] 170 (0,0))) :
 Calls Tryz.prog 111 #[.slice (some ⟨g,0,none⟩) 3 3] w λe w'=>e=.returned (.int .i64 (min x (min y z)))/\w'=w:=by
 obtain⟨⟨k0,k1,k2⟩,-,-⟩:=row3 h
 clear h
 go_enter Tryz.func111,Tryz.ntmps111
 go_wp2_with fail
 go_loopw [3,4] (λv3 v4 w'=>∃ k:Nat,1<=k/\k<=3/\v4=.int .i64 k/\v3=.int .i64 (if k=1 then x else if k=2 then min x y else min x (min y z))/\w'=w) (λ_ v4 _=>3-(intOf v4).toNat)
 case atStart=>exact⟨1,by decide,by decide,rfl,rfl,rfl⟩
 case round =>
  obtain⟨k,hk1,hk3,rfl,rfl,rfl⟩:=hrel
  obtain rfl|rfl|rfl:k=1∨k=2∨k=3:=by omega
  ·go_wp2
   go_roundw
   case rel=>exact⟨2,by decide,by decide,rfl,rfl,trivial⟩
   case measure=>decide
  ·go_wp2
   go_roundw
   case rel=>exact⟨3,by decide,by decide,rfl,rfl,trivial⟩
   case measure=>decide
  go_wp2
  go_ret
  exact⟨rfl,rfl⟩
open Go.RowKit
def dF (x:Int) (n k:Nat):List Value:=dN (List.replicate (3*k) x++List.replicate (3*n-3*k) 0)
theorem AmP (x:Int) {n k:Nat} (h:k<=n):(dF x n k).length=3*n:=by
 unfold dF
 rw[yB,ArV,List.length_replicate,List.length_replicate];omega
theorem AmQ (x:Int) (n:Nat):dF x n n=dN (List.replicate (3*n) x):=by
 unfold dF
 rw[Nat.sub_self,List.replicate_zero,AsM]
theorem AiA (x:Int) (n:Nat):dF x n 0=dN (List.replicate (3*n) 0):=rfl
theorem sM (x:Int) (n k j:Nat):(dF x n k).take (3*k)++dN (List.replicate (3*j) x)++(dF x n k).drop (3*k+3*j)=dF x n (k+j):=by
 unfold dF dN
 rw[<-List.map_take,<-List.map_drop,<-List.map_append,<-List.map_append]
 congr 1
 have l1:(List.replicate (3*k) x).length=3*k:=List.length_replicate
 rw[List.take_append_of_le_length (by omega),AsT (by omega),List.drop_append,List.drop_of_length_le (by omega),List.nil_append,l1,
  show 3*k+3*j-3*k=3*j by omega,List.drop_replicate,show 3*(k+j)=3*k+3*j by omega,<-List.replicate_append_replicate]
 rw[show 3*n-3*k-3*j=3*n-(3*k+3*j) by omega]
theorem AoO (x:Int) {n k i:Nat} (h:i<3*k):(dF x n k)[i]?=some (.int .i64 x):=by
 unfold dF dN
 rw[List.getElem?_map,List.getElem?_append_left (by rw[List.length_replicate];omega),List.getElem?_replicate,ArZ h]
 rfl
theorem zC {P:Program} {ops:Array Oper} {o:Oper} {a:Act} {w:World} {K:Act->World->Prop} {Q:Exit->Act->World->Prop} {E:Prop} (hgd:o.guard=none) (d s:Operand) (dT sT:TypeId)
 (ho:o.op=.call { callee:=.builtin .copy,args:=#[d,s],argTypes:=#[dT,sT] }) (elem:TypeId) (m:Nat) (hu:P.underlying dT=some (.slice elem)) (hsz:(P.info? elem).map (·.size)=some m)
 (g off dLen dCap:Nat) (ad:Addr) (sLen sCap:Nat) (hd:a.eval d=.slice (some ⟨g,off,none⟩) dLen dCap) (hs:a.eval s=.slice (some ad) sLen sCap)
 (cur:List Value) (t:TypeId) (hg:w.heap[g]?=some (.cells cur.toArray t (0,0))) (cs:List Value) (hn:cs.length=Nat.min sLen dLen*m)
 (hsrc:∀ j v,cs[j]?=some v->w.cell? (ad.add j)=some v) (hfit:off+cs.length<=cur.length) (h1:∀ v∈cs,v.oneCell'=true)
 (h:K (a.put o.dst (goInt (Nat.min sLen dLen))) (w.setRow g (cur.take off++(cs++cur.drop (off+cs.length))).toArray)) :
 if Region.wanted o (yielded ops a.tmps)=true then Oper.wp P o a w K Q else E:=by
 have hw:Region.wanted o (yielded ops a.tmps)=true:=by simp[Region.wanted,hgd]
 rw[ArZ hw]
 have hrun:=gQ (P:=P) w dT sT o.type elem g off dLen dCap ad sLen sCap m cur.toArray t cs hu hsz hg hn hsrc (by simpa using hfit) h1
 unfold Oper.wp
 simp[execOp,ho,resolve,invoke,builtin,hd,hs,hrun,Result.andThen]
 exact h
theorem vI (x:Int) (g n:Nat) (hn:1<=n/\n<=24) (w:World) (h:w.heap[g]?=some (.cells #[.int .i64 x,.int .i64 x,.int .i64 x] 170 (0,0))) :
 Calls Tryz.prog 143 #[.slice (some ⟨g,0,none⟩) 1 1,.int .i64 n] w λe w'=>e=.returned (.slice (some ⟨w.heap.size,0,none⟩) n n)/\Below w.heap.size w w'/\TabAt w' w.heap.size (List.replicate (3*n) x):=by
 have hgl:=(ArL h).1
 have CM:=hid (AhY n hn.2 w)
 have D1:decide ((n:Int)<0)=false:=aB (by omega)
 have D2:decide (9223372036854775807<(n:Int))=false:=aB (by omega)
 have w0:IntKind.u64.wrap (n:Int)=(n:Int):=by rw[IntKind.wrap_u64];omega
 have w1:IntKind.i64.wrap (n:Int)=(n:Int):=by rw[IntWalk.i64_in _ (by omega)]
 have hmk:=cK ApZ (P:=Tryz.prog) () 168 170 (.agg #[.int .i64 0,.int .i64 0,.int .i64 0]) 24 Tryz.underlying168 AeJ rfl .i64 .i64 n (by omega) (by omega)
 rw[uR] at hmk
 have XA:=hid ((AtB w).alloc (ArR _) (AbV (List.replicate (3*n) 0)))
 have RA:=hid (AsW w (AbV (List.replicate (3*n) 0)))
 have RG:=hid ((XA.out.block g hgl).trans h)
 clear h
 go_enter Tryz.func143,Tryz.ntmps143
 go_wp2_with fail
 refine CM.out.mono ?_;rintro e w' ⟨rfl,rfl⟩
 go_upto_region 7 with fail
 have hc0:∀ W:World,W.heap[w'.heap.size]?=some (AbV (List.replicate (3*n) 0))->W.heap[g]?=some (.cells #[.int .i64 x,.int .i64 x,.int .i64 x] 170 (0,0))->(Builtin.copy_ #[168,168] 3 #[.slice (some ⟨w'.heap.size,0,none⟩) n n,.slice (some ⟨g,0,none⟩) 1 1]).run Tryz.prog W=.ok (goInt 1) (W.setRow w'.heap.size (dF x n 1).toArray):=by
  intro W hW hG
  have hr:=gQ (P:=Tryz.prog) W 168 168 3 170 w'.heap.size 0 n n ⟨g,0,none⟩ 1 1 3 (dN (List.replicate (3*n) 0)).toArray 170 [.int .i64 x,.int .i64 x,.int .i64 x]
   Tryz.underlying168 (by rw[show (Tryz.prog.info? 170).map (·.size)=some 3 by kernel_rfl]) hW (by rw[show Nat.min 1 n=1 from Nat.min_eq_left hn.1];rfl)
   (λj v hj=>by
    obtain⟨⟨k0,k1,k2⟩,-,-⟩:=row3 hG
    match j,hj with
    | 0,hj=>cases hj;exact k0
    | 1,hj=>cases hj;exact k1
    | 2,hj=>cases hj;exact k2)
   (by simp[dN];omega) (λv hv=>by
    simp only[AsN,List.not_mem_nil,or_false,or_self] at hv
    rw[hv];rfl)
  rw[hr,show Nat.min 1 n=1 from Nat.min_eq_left hn.1]
  have e:=sM x n 0 1
  rw[AiA,Nat.zero_add] at e
  rw[<-e]
  rfl
 have hc1:=hc0 _ RA.out RG.out
 clear hc0
 generalize hw1:w'.alloc (AbV (List.replicate (3*n) 0))=w1 at XA RA RG hc1 ⊢
 clear hw1 hmk
 have HB:=hid (show Below w'.heap.size w' (w1.setRow w'.heap.size (dF x n 1).toArray) from below_setRow XA.out (ArR _) _)
 have HR:=hid (show (w1.setRow w'.heap.size (dF x n 1).toArray).heap[w'.heap.size]?=some (.cells (dF x n 1).toArray 170 (0,0)) from setRow_heap w1 w'.heap.size _ _ _ _ RA.out)
 go_upto_region 8 with fail
 generalize w1.setRow w'.heap.size (dF x n 1).toArray=w2 at HB HR ⊢
 generalize hbs:w'.heap.size=b at HB HR ⊢
 clear hc1 XA RA RG
 go_loopw [8] (λv8 w3=>∃ k:Nat,1<=k/\k<=n/\v8=.int .i64 k/\Below b w' w3/\w3.heap[b]?=some (.cells (dF x n k).toArray 170 (0,0))) (λv8 _=>n-(intOf v8).toNat)
 case atStart=>exact⟨1,ArR _,hn.1,rfl,HB.out,HR.out⟩
 case round =>
  obtain⟨k,hk1,hkn,rfl,hb,hr⟩:=hrel
  have HB3:=hid hb
  have HR3:=hid hr
  clear hb hr
  by_cases hlt:k<n
  ·have d1:decide ((k:Int)<(n:Int))=true:=aC (by omega)
   have hkc:¬ n=k:=by omega
   go_upto_region 9 with fail
   obtain⟨m,hm,hm1,hm2⟩:∃ m,Nat.min k (n-k)=m/\1<=m/\k+m<=n:=⟨_,rfl,by show 1<=min k (n-k);omega,by show k+min k (n-k)<=n;omega⟩
   have hm3:m<=k:=by rw[<-hm];exact Nat.min_le_left _ _
   have hcs:(dN (List.replicate (3*m) x)).length=3*m:=by rw[yB,List.length_replicate]
   have HX:=hid (show (dF x n k).take (k*3)++(dN (List.replicate (3*m) x)++(dF x n k).drop (k*3+(dN (List.replicate (3*m) x)).length))=dF x n (k+m) from by
    rw[hcs,Nat.mul_comm k 3,<-List.append_assoc];exact sM x n k m)
   have w2:IntKind.i64.wrap ((k:Int)+(m:Int))=((k+m:Nat):Int):=by rw[IntWalk.i64_in _ (by omega)];omega
   have i0:(0:Int)<=(k:Int):=ArT k
   have i1:(k:Int)<=(n:Int):=by omega
   have hsz:(Tryz.prog.info? 170).map (·.size)=some 3:=by kernel_rfl
   have hsrc:∀ j v,(dN (List.replicate (3*m) x))[j]?=some v->wr.drew.cell? ((⟨b,0,none⟩:Addr).add j)=some v:=λj v hj=>by
    have hjl:j<3*m:=by have:=(ArM hj).1;omega
    unfold dN at hj
    rw[List.getElem?_map,List.getElem?_replicate,ArZ hjl] at hj
    cases hj
    rw[show ((⟨b,0,none⟩:Addr).add j)=⟨b,j,none⟩ by unfold Addr.add;split <;> simp_all,AsY wr.drew b j _ _ _ HR3.out,List.getElem?_toArray]
    exact AoO x (by have:=hm3;omega)
   have hone:∀ v∈dN (List.replicate (3*m) x),v.oneCell'=true:=λv hv=>by
    obtain⟨z,-,rfl⟩:=List.mem_map.1 hv
    rfl
   have HS:=hid hsz
   have HSR:=hid hsrc
   have HON:=hid hone
   have HC1:=hid (show (dN (List.replicate (3*m) x)).length=Nat.min k (n-k)*3 from by rw[hcs,hm,Nat.mul_comm])
   have HFI:=hid (show k*3+(dN (List.replicate (3*m) x)).length<=(dF x n k).length from by rw[hcs,AmP x hkn];omega)
   have HRD:=hid (show wr.drew.heap[b]?=some (.cells (dF x n k).toArray 170 (0,0)) from HR3.out)
   have HM:=hid hm
   clear hsz hsrc hone hcs hm
   go_region_law (with_reducible refine zC (by rfl) (.tmp 41) (.tmp 44) 168 168 (by rfl) 170 3 Tryz.underlying168 HS.out b (k*3) (n-k) (n-k) ⟨b,0,none⟩ k n (by simp[go_sem];done) (by simp[go_sem];done) (dF x n k) 170 HRD.out (dN (List.replicate (3*m) x)) HC1.out HSR.out HFI.out HON.out ?_)
   rw[HX.out,HM.out]
   have HB4:=hid (show Below b w' (wr.drew.setRow b (dF x n (k+m)).toArray) from below_setRow HB3.out.drew (ArR _) _)
   have HR4:=hid (show (wr.drew.setRow b (dF x n (k+m)).toArray).heap[b]?=some (.cells (dF x n (k+m)).toArray 170 (0,0)) from setRow_heap wr.drew b _ _ _ _ HRD.out)
   generalize wr.drew.setRow b (dF x n (k+m)).toArray=w4 at HB4 HR4 ⊢
   clear HX HSR HON HC1 HFI HRD
   go_wp2_with fail
   dsimp [Act.put]
   go_roundw
   case rel =>
    (repeat apply Exists.intro)
    exact⟨⟨k+m,by omega,hm2,by rw[w2],HB4.out,HR4.out⟩,rfl⟩
   case measure=>simp[intOf];omega
  obtain rfl:k=n:=by omega
  have d1:decide ((k:Int)<(k:Int))=false:=aB (by omega)
  rw[AmQ] at HR3
  go_wp2
  go_ret
  exact⟨by rw[hbs] <;> rfl,by rw[hbs];exact HB3.out,by rw[hbs];exact HR3.out⟩
section
variable (p : Pl.Plan) (hf : Pl.Fit p) (hm : Lp.Meas p) (hap : 0 <= p.ap /\ p.ap <= 1125899906842624)
include hf hm hap
theorem pW (A:Option Addr) (c:Nat) (A':Option Addr) (c':Nat) (st:Nat × Nat) (hst:st.2<3) (W0:World) (hI:PlanIn W0 p A A') (b s e:Nat) (T:List Int) (w:World) (hw:NrW W0 w w b T) (hb:W0.heap.size<=b) (hT:Nr.Fair p p.ap st T) (hs:s<p.secs.length) (he:e<3) :
 Calls Tryz.prog 144 #[aR p A c A' c',.slice (some ⟨b,0,none⟩) p.secs.length p.secs.length,.int .i64 s,.int .i64 e] w λr w'=>∃ (more:Bool) (T':List Int),r=.returned (.bool more)/\NrW W0 w w' b T'/\Nr.Gone p p.ap st T T' more (Nr.Fixed p T s e):=by
 --[
 have XA:=(AtB w).alloc (ArR _) (aD p A c A' c')
 have RP:=hid (AsW w (aD p A c A' c'))
 have HW:=hid (hw.behind XA)
 have HI:=hid hI
 have HT:=hid hT
 have hlen:=hT.len
 obtain⟨b1,o1,rfl,g1,on⟩:=bQ hI.1 (ArN hs)
 have onl:=(bE on).2.2.1
 rw[show (p.secs[s]).len=Nr.lenAt p s by unfold Nr.lenAt;rw[ArN hs];rfl] at onl
 have ONL:=hid (λW (hW:Below W0.heap.size W0 W)=>(hW.cell (p:=⟨b1,o1+s*12+2,none⟩) g1).trans onl)
 clear on onl
 have hfew:=hf.few
 have i0:(0:Int)<=(s:Int):=ArT s
 have i1:(s:Int)<(p.secs.length:Int):=by omega
 have gp:=(ArL RP.out).1
 obtain⟨⟨p0,p1,p2,p3,p4,p5⟩,-,-⟩:=row6 RP.out
 have CN:=hid (dC p (some ⟨b1,o1,none⟩) c A' c' s e _ (HI.out.below HW.out.below) hfew)
 have hbw:=hw.tab.lt
 have HNX0:=hid (λq f (h:Wk.next p s e=(q,f,true))=>yC hf (s:=s) (k:=e) h)
 have HNI:=hid (λ(h:(Wk.next p s e).2.2=true)=>Lp.next_in hf h)
 generalize hnx:Wk.next p s e=nx at CN
 have HNX:=hid hnx
 obtain⟨qi,fi,ok⟩:=nx
 clear hnx XA hI hT hw
 cases ok with
 | false =>
   clear hs he
   go_enter Tryz.func144,Tryz.ntmps144
   go_wp2_with fail
   refine CN.out.mono ?_;rintro e1 w1 ⟨rfl,hb1⟩
   have HW1:=hid (HW.out.behind hb1)
   clear p0 p1 p2 p3 p4 p5 hb1 CN
   go_wp2
   go_ret
   exact⟨false,T,rfl,HW1.out,⟨HT.out,ArR _,(λh=>by cases h),λ_=>⟨rfl,λb hn=>by rw[HNX.out] at hn;exact absurd (congrArg (λx=>x.2.2) hn) (by simp)⟩⟩⟩
 | true =>
   obtain⟨Q,F,rfl,rfl,hQ,hF⟩:∃ Q F:Nat,qi=(Q:Int)/\fi=(F:Int)/\Q<p.secs.length/\F<3:=by
    obtain⟨j,f,h1,h2,h3,h4⟩:=HNI.out (by rw[HNX.out])
    rw[HNX.out] at h1 h3
    exact⟨j,f,h1,h3,h2,h4⟩
   have q0:(0:Int)<=(Q:Int):=ArT Q
   have q1:(Q:Int)<(p.secs.length:Int):=by omega
   have f0:(0:Int)<=(F:Int):=ArT F
   have f1:(F:Int)<3:=by omega
   have HB:=hid (λa1 a2 (h1:a1<p.secs.length) (h2:a2<3)=>Nr.fair_bd hap.1 HT.out (a:=(a1,a2)) h1 h2)
   have HLB:=hid (Nr.lenAt_bd hm s)
   have HQ:=hid hQ
   have HF:=hid hF
   have HS:=hid hs
   have HE:=hid he
   clear hQ hF he
   go_enter Tryz.func144,Tryz.ntmps144
   go_wp2_with fail
   refine CN.out.mono ?_;rintro e1 w1 ⟨rfl,hb1⟩
   have HW1:=hid (HW.out.behind hb1)
   have RP1:=hid ((hb1.block _ gp).trans RP.out)
   generalize w.heap.size=gq at RP1 p0 p1 p2 p3 p4 p5 hbw ⊢
   clear p0 p1 p2 p3 p4 p5 hb1 CN RP gp
   have gp:=(ArL RP1.out).1
   obtain⟨⟨p0,p1,p2,p3,p4,p5⟩,-,-⟩:=row6 RP1.out
   have c0:=HW1.out.tab.cell (s:=Q) (e:=F) (by rw[hlen];exact Nr.slot_lt HQ.out HF.out)
   have CO:=hid (AbM p (some ⟨b1,o1,none⟩) c A' c' s e w1 (HI.out.below HW1.out.below) hfew)
   go_wp2_with fail
   refine CO.out.mono ?_;rintro e2 w2 ⟨B,d,rfl,hR,hb2⟩
   have HW2:=hid (HW1.out.behind hb2)
   have RP2:=hid ((hb2.block _ gp).trans RP1.out)
   have HR:=hid hR
   clear p0 p1 p2 p3 p4 p5 hb2 CO RP1 c0 gp hR
   have gp:=(ArL RP2.out).1
   go_wp2_with fail
   have HSL:=hid (Wk.outs_len p s e)
   have HTO:=hid (λx (hx:x∈Wk.outs p s e)=>Nr.step_to hx (ArT e))
   have HND:=hid (λh=>Nr.least_none (T:=T) (b:=(Q,F)) HNX.out h)
   have HLS:=hid (λm h1 h2=>Nr.least_less hm hap.1 HT.out HS.out HE.out (b:=(Q,F)) HNX.out HQ.out HF.out (m:=m) h1 h2)
   have HYB:=hid (HB.out Q F HQ.out HF.out)
   generalize hy:Nr.at_ T (Q,F)=y at HND HLS HYB ⊢
   have HY:=hid hy
   generalize hO:Wk.outs p s e=O at HSL HR HTO HND HLS ⊢
   generalize hla:Nr.lenAt p s=l at ONL HLB HND HLS
   have B0:=hid (AtB w2)
   have KP:=hid (λW (hW:Below w2.heap.size w2 W)=>(hW.block _ gp).trans RP2.out)
   clear hla hO hy
   go_loopw [12,14,36] (λv12 _ v36 w'=>∃ k:Nat,k<=O.length/\v36=.int .i64 k/\v12=.int .i64 (Nr.least T s l y (O.take k))/\Below w2.heap.size w2 w') (λ_ _ v36 _=>O.length-(intOf v36).toNat)
   case atStart=>exact⟨0,AsD _,rfl,rfl,B0.out⟩
   case round =>
    obtain⟨k,hk,rfl,rfl,hb3⟩:=hrel
    have HB3:=hid hb3
    clear hb3
    by_cases hlt:k<O.length
    ·have hx:=ArN hlt
     obtain⟨b2,o2,rfl,g2,on⟩:=(HR.out.below rfl HB3.out).at hlt
     have hto:=HTO.out _ (List.getElem_mem hlt)
     generalize O[k]=x at hx on hto
     obtain⟨tt,ht⟩:∃ tt:Nat,x.t=(tt:Int):=⟨x.t.toNat,by omega⟩
     have HLT:=hid (Nr.least_take (T:=T) (s:=s) (l:=l) (y:=y) hx)
     obtain⟨r0,r1,r2⟩:=bL on
     rw[show k*aE.m=k*3 from rfl] at r0 r1 r2
     obtain⟨x0,x1,x2⟩:=x
     simp only at ht r0 r1 r2 HLT hto
     subst ht
     rw[AsP] at HLT
     have ht3:tt<3:=by omega
     have HW3:=hid (HW2.out.behind HB3.out)
     obtain⟨d1,j0,j1⟩:=ArK (show k<O.length by omega)
     have t0:(0:Int)<=(tt:Int):=ArT tt
     have t1:(tt:Int)<3:=by omega
     have XN:=hid ((AtB wr).alloc (ArR _) (.cells #[.int .i64 x0,.int .i64 x1,.int .i64 tt] 129))
     have RX:=hid (AsW wr (.cells #[.int .i64 x0,.int .i64 x1,.int .i64 tt] 129))
     clear on hx hto
     go_upto_region 8 with fail
     have HB4:=hid (HB3.out.trans (XN.out.mono HB3.out.size))
     generalize wr.alloc (.cells #[.int .i64 x0,.int .i64 x1,.int .i64 tt] 129)=w4 at RX HB4 XN ⊢
     generalize wr.heap.size=gx at RX XN ⊢
     have gx4:=(ArL RX.out).1
     have HW4:=hid (HW2.out.behind HB4.out)
     have k2:=(row3 RX.out).1.2.2
     have c1:=HW4.out.tab.cell (s:=s) (e:=tt) (by rw[hlen];exact Nr.slot_lt HS.out ht3)
     obtain⟨⟨-,-,-,-,p4,-⟩,-,-⟩:=row6 (KP.out _ HB4.out)
     have onl:=ONL.out _ HW4.out.below
     have hab:=HB.out s tt HS.out ht3
     generalize Nr.at_ T (s,tt)=z at c1 HLT hab
     generalize hm0:Nr.least T s l y (O.take k)=m0 at HLT ⊢
     have KS:=hid (λW (hW:Below w4.heap.size w4 W)=>AsG ((hW.cell (p:=⟨gx,2,none⟩) gx4).trans k2) (AsG ((hW.cell (p:=⟨b,s*3+tt,none⟩) HW4.out.tab.lt).trans c1) (AsG ((hW.cell (p:=⟨gq,4,none⟩) (AsE gp HB4.out.size)).trans p4) ((hW.cell (p:=⟨b1,o1+s*12+2,none⟩) (AsE g1 HW4.out.below.size)).trans onl))))
     have q:IntKind.i64.wrap (z+l)=z+l:=by have:=HLB.out;rw[IntWalk.i64_in _ (by omega)]
     have T0:=hid (AtB w4)
     clear r0 r1 r2 hm0
     go_region_held3 (λW=>W.cell? ⟨gx,2,none⟩=some (.int .i64 tt)/\W.cell? ⟨b,s*3+tt,none⟩=some (.int .i64 z)/\W.cell? ⟨gq,4,none⟩=some (.slice (some ⟨b1,o1,none⟩) p.secs.length c)/\W.cell? ⟨b1,o1+s*12+2,none⟩=some (.int .i64 l))
      (first|with_reducible exact KS.out _ T0.out.drew|(go_keep;done))
      (fail)
     have hsl:=HSL.out
     go_wp2
     go_roundw
     case rel=>exact⟨k+1,by omega,by go_num,by rw[HLT.out],HB4.out.drew⟩
     case measure=>simp[intOf];omega
    obtain rfl:k=O.length:=by omega
    have d1:decide ((O.length:Int)<(O.length:Int))=false:=aB (by omega)
    have HW3:=hid (HW2.out.behind HB3.out)
    have c0:=HW3.out.tab.cell (s:=Q) (e:=F) (by rw[hlen];exact Nr.slot_lt HQ.out HF.out)
    have fz:=HW3.out.tab.frozen (Q*3+F)
    rw[HY.out] at c0
    rw[List.take_length]
    generalize hm0:Nr.least T s l y O=m0 at HND ⊢
    by_cases hme:m0=y
    ·have E1:(m0 == y)=true:=by rw[beq_iff_eq];exact hme
     have HME:=hid (hme ▸ rfl:m0=y)
     clear hm0 hme
     go_wp2
     go_ret
     exact⟨false,T,rfl,HW3.out,⟨HT.out,ArR _,(λh=>by cases h),λ_=>⟨rfl,HND.out HME.out⟩⟩⟩
    have E1:(m0 == y)=false:=by rw[ArU];exact hme
    obtain⟨h1,h2,h3,h4⟩:=HLS.out m0 hm0 hme
    obtain⟨hfr,hms⟩:=HT.out.bet hst (b:=(Q,F)) HQ.out HF.out h1 h2 h3 (by rw[HY.out];exact h4)
    have HFR:=hid hfr
    have HMS:=hid hms
    have HW4:=hid (HW3.out.set hb Q F m0)
    clear hm0 hme h1 h2 h3 h4 hfr hms
    go_wp2
    go_ret
    exact⟨true,Nr.bet T (Q,F) m0,rfl,HW4.out,⟨HFR.out,Nat.le_of_lt HMS.out,(λ_=>HMS.out),λh=>by cases h⟩⟩
 --]
end
end Go.Proofs.YtjofpclmbjpgjaaGreat
