/- Lemmas. -/
import Derived.Test.YtjofpclmbjpgjaaGreatMk31
set_option maxHeartbeats 16000000
set_option maxRecDepth 100000
namespace Go.Proofs.YtjofpclmbjpgjaaGreat
open Lib (hid)
open Go.RowKit
theorem kL {α:Type} {L M:List α} {j:Nat} (h:j<L.length) (h':j<M.length):(L.drop j=M.drop j) ↔ L[j]=M[j]/\L.drop (j+1)=M.drop (j+1):=by
 rw[List.drop_eq_getElem_cons h,List.drop_eq_getElem_cons h',List.cons.injEq]
theorem AmI (A:Option Addr) (c:Nat) (L:List Nat) (A':Option Addr) (c':Nat) (M:List Nat) (w:World) (h:LWd.Row w A L) (h':LWd.Row w A' M) (hl:L.length<=1000000) :
 Calls Tryz.prog 30 #[.slice A L.length c,.slice A' M.length c'] w (OneIs (.bool (decide (L=M))) w):=by
 --[
 have B0:=hid (AtB w)
 have HR:=hid h
 have HS:=hid h'
 clear h h'
 by_cases hn:L.length=M.length
 ·have E : ((L.length:Int) != (M.length:Int))=false:=by rw[bne_eq_false_iff_eq];omega
  generalize hq:decide (L=M)=q
  have HQ:=hid (show decide (L.drop 0=M.drop 0)=q from hq)
  have HN:=hid hn
  clear hq hn
  go_enter Tryz.func30,Tryz.ntmps30
  go_wp2_with fail
  go_loopw [5,13] (λ_ v w'=>∃ j:Nat,j<=L.length/\v=.int .i64 j/\decide (L.drop j=M.drop j)=q/\Below w.heap.size w w') (λ_ v _=>L.length-(intOf v).toNat)
  case atStart=>exact⟨0,AsD _,rfl,HQ.out,B0.out⟩
  case round =>
   obtain⟨j,hj,rfl,hp,hb⟩:=hrel
   clear HQ E
   have HB:=hid hb
   by_cases hlt:j<L.length
   ·have hjs:j<M.length:=by have:=HN.out;omega
    obtain⟨d1,i0,i1⟩:=ArK (show j<L.length by omega)
    have i2:(j:Int)<(M.length:Int):=by omega
    have hdd:=kL hlt hjs
    obtain⟨b,o,rfl,hbb,on⟩:=(HR.out.below rfl hb).at hlt
    obtain⟨b',o',rfl,hbb',on'⟩:=(HS.out.below rfl hb).at hjs
    generalize L[j]=x at on hdd
    generalize M[j]=y at on' hdd
    have c0:=yF on
    have c1:=yF on'
    rw[show j*LWd.m=j from Nat.mul_one _] at c0 c1
    have hz:decide (L.drop j=M.drop j)=(decide (x=y) && decide (L.drop (j+1)=M.drop (j+1))):=by
     rw[Bool.eq_iff_iff,AsF,AsC,AsC,AsC]
     exact hdd
    rw[hz] at hp
    have HP:=hid hp
    clear hb hdd hz hp on on'
    by_cases hxy:x=y
    ·have E:((x:Int) != (y:Int))=false:=by rw[bne_eq_false_iff_eq];omega
     have HT:=hid (show decide (L.drop (j+1)=M.drop (j+1))=q from by have:=HP.out;rw[decide_eq_true hxy] at this;exact this)
     clear HP hxy
     go_upto_region 6 with fail
     go_quiet (fail)
     go_wp2
     go_roundw
     case rel=>exact⟨j+1,by omega,by go_num,HT.out,aH HB.out _⟩
     case measure=>simp[intOf];omega
    have E:((x:Int) != (y:Int))=true:=by rw[AsV];omega
    have HF:=hid (show false=q from by have:=HP.out;rw[decide_eq_false hxy] at this;exact this)
    clear HP hxy
    go_upto_region 6 with fail
    go_quiet (fail)
    go_wp2
    go_ret
    exact⟨by rw[<-HF.out] <;> rfl,aH HB.out _⟩
   obtain rfl:j=L.length:=by omega
   have d1:decide ((L.length:Int)<(L.length:Int))=false:=aB (by omega)
   have HF:=hid (show true=q from by
    rw[List.drop_length,HN.out,List.drop_length] at hp
    exact hp)
   clear hp hb
   go_wp2
   go_ret
   exact⟨by rw[<-HF.out] <;> rfl,HB.out⟩
 ·have E:((L.length:Int) != (M.length:Int))=true:=by rw[AsV];omega
  have P:=hid (show decide (L=M)=false from decide_eq_false λe=>hn (congrArg List.length e))
  clear hn
  go_enter Tryz.func30,Tryz.ntmps30
  go_wp2
  go_ret
  exact⟨by rw[P.out] <;> rfl,B0.out⟩
 --]
theorem AcN (A:Option Addr) (c:Nat) (R:List (List Nat)) (A':Option Addr) (c':Nat) (S:List (List Nat)) (w:World) (h:SetsIn w A R) (hl:∀ x∈R,x.length<=1000000) (h':SetsIn w A' S) (hR:R.length<=1000000) :
 Calls Tryz.prog 29 #[.slice A R.length c,.slice A' S.length c',.func (.func 30) #[] #[]] w (OneIs (.bool (decide (R=S))) w):=by
 --[
 have B0:=hid (AtB w)
 have HR:=hid h
 have HS:=hid h'
 have HL:=hid hl
 clear h h' hl
 by_cases hn:R.length=S.length
 ·have E : ((R.length:Int) != (S.length:Int))=false:=by rw[bne_eq_false_iff_eq];omega
  generalize hq:decide (R=S)=q
  have HQ:=hid (show decide (R.drop 0=S.drop 0)=q from hq)
  have HN:=hid hn
  clear hq hn
  go_enter Tryz.func29,Tryz.ntmps29
  go_wp2_with fail
  go_loopw [7,8,9,17] (λ_ _ _ v w'=>∃ j:Nat,j<=R.length/\v=.int .i64 j/\decide (R.drop j=S.drop j)=q/\Below w.heap.size w w') (λ_ _ _ v _=>R.length-(intOf v).toNat)
  case atStart=>exact⟨0,AsD _,rfl,HQ.out,B0.out⟩
  case round =>
   obtain⟨j,hj,rfl,hp,hb⟩:=hrel
   clear HQ E
   have HB:=hid hb
   by_cases hlt:j<R.length
   ·have hjs:j<S.length:=by have:=HN.out;omega
    obtain⟨d1,i0,i1⟩:=ArK (show j<R.length by omega)
    have i2:(j:Int)<(S.length:Int):=by omega
    have hdd:=kL hlt hjs
    have hxl:=HL.out _ (List.getElem_mem hlt)
    obtain⟨b,o,X,xc,rfl,hbb,c0,hX⟩:=(HR.out.below hb).at (ArN hlt)
    obtain⟨b',o',Y,yc,rfl,hbb',c0',hY⟩:=(HS.out.below hb).at (ArN hjs)
    generalize R[j]=x at hxl c0 hX hdd
    generalize S[j]=y at c0' hY hdd
    have C:=hid (AmI X xc x Y yc y wr hX hY hxl)
    have hz:decide (R.drop j=S.drop j)=(decide (x=y) && decide (R.drop (j+1)=S.drop (j+1))):=by
     rw[Bool.eq_iff_iff,AsF,AsC,AsC,AsC]
     exact hdd
    rw[hz] at hp
    generalize decide (x=y)=z at C hp
    have HP:=hid hp
    clear hb hdd hz hp hX hY hxl
    go_wp2_with fail
    refine C.out.mono ?_;rintro e w2 ⟨rfl,hb2⟩
    have B2:=hid (HB.out.trans (hb2.mono HB.out.size))
    clear hb2 C
    cases z with
    | true =>
      have HT:=hid (show decide (R.drop (j+1)=S.drop (j+1))=q from HP.out)
      clear HP
      go_wp2
      go_roundw
      case rel=>exact⟨j+1,by omega,by go_num,HT.out,B2.out⟩
      case measure=>simp[intOf];omega
    | false =>
      have HF:=hid (show false=q from HP.out)
      clear HP
      go_wp2
      go_ret
      exact⟨by rw[<-HF.out] <;> rfl,B2.out⟩
   obtain rfl:j=R.length:=by omega
   have d1:decide ((R.length:Int)<(R.length:Int))=false:=aB (by omega)
   have HF:=hid (show true=q from by
    rw[List.drop_length,HN.out,List.drop_length] at hp
    exact hp)
   clear hp hb
   go_wp2
   go_ret
   exact⟨by rw[<-HF.out] <;> rfl,HB.out⟩
 ·have E:((R.length:Int) != (S.length:Int))=true:=by rw[AsV];omega
  have P:=hid (show decide (R=S)=false from decide_eq_false λe=>hn (congrArg List.length e))
  clear hn
  go_enter Tryz.func29,Tryz.ntmps29
  go_wp2
  go_ret
  exact⟨by rw[P.out] <;> rfl,B0.out⟩
 --]
theorem Tb.right_parts (t:Tb.Table):Tb.right t=(Tb.sizesOk t && Tb.namesOk t.names && Tb.namesOk t.sigs && Tb.upTo t.settle 1000 && Tb.ups (Tb.routeOk t) 0 t.routes.length && decide (t.bars=Cl.rows t.routes)):=by
 unfold Tb.right Tb.upTo
 simp only[Bool.and_assoc]
theorem kM (m:TableM) (w:World) (h:TableIn w m) (hB:Tb.Bound m.t) :
 Calls Tryz.prog 12 #[tbV m] w (OneIs (.bool (Tb.right m.t)) w):=by
 --[
 obtain⟨A0,c0,A1,c1,A2,c2,A4,c4,A5,c5,t⟩:=m
 show Calls Tryz.prog 12 #[.agg #[.slice A0 t.names.length c0,.slice A1 t.points.length c1,.slice A2 t.sigs.length c2,.int .i64 t.settle,.slice A4 t.routes.length c4,.slice A5 t.bars.length c5]] w (OneIs (.bool (Tb.right t)) w)
 have XX:=(AtB w).alloc (ArR _) (.cells #[.slice A0 t.names.length c0,.slice A1 t.points.length c1,.slice A2 t.sigs.length c2,.int .i64 t.settle,.slice A4 t.routes.length c4,.slice A5 t.bars.length c5] 34)
 have X:=hid XX
 have HI:=hid (h.below XX)
 have HB0:=hid hB
 have RP:=hid (AsW w (.cells #[.slice A0 t.names.length c0,.slice A1 t.points.length c1,.slice A2 t.sigs.length c2,.int .i64 t.settle,.slice A4 t.routes.length c4,.slice A5 t.bars.length c5] 34))
 have V:=hid (Tb.right_parts t)
 have C1:=hid (OneIs.keep (w0:=(w.alloc (.cells #[.slice A0 t.names.length c0,.slice A1 t.points.length c1,.slice A2 t.sigs.length c2,.int .i64 t.settle,.slice A4 t.routes.length c4,.slice A5 t.bars.length c5] 34))) λW _=>show Calls Tryz.prog 25 #[.agg #[.slice A0 t.names.length c0,.slice A1 t.points.length c1,.slice A2 t.sigs.length c2,.int .i64 t.settle,.slice A4 t.routes.length c4,.slice A5 t.bars.length c5]] W (OneIs (.bool (Tb.sizesOk t)) W) from uX ⟨A0,c0,A1,c1,A2,c2,A4,c4,A5,c5,t⟩ W)
 have C2:=hid (OneIs.keep (w0:=(w.alloc (.cells #[.slice A0 t.names.length c0,.slice A1 t.points.length c1,.slice A2 t.sigs.length c2,.int .i64 t.settle,.slice A4 t.routes.length c4,.slice A5 t.bars.length c5] 34))) λW hW=>kI A0 c0 t.names W (HI.out.p0.below rfl hW) hB.names hB.name)
 have C3:=hid (OneIs.keep (w0:=(w.alloc (.cells #[.slice A0 t.names.length c0,.slice A1 t.points.length c1,.slice A2 t.sigs.length c2,.int .i64 t.settle,.slice A4 t.routes.length c4,.slice A5 t.bars.length c5] 34))) λW hW=>kI A2 c2 t.sigs W (HI.out.p2.below rfl hW) hB.sigs hB.sig)
 have C4:=hid (eB (w0:=(w.alloc (.cells #[.slice A0 t.names.length c0,.slice A1 t.points.length c1,.slice A2 t.sigs.length c2,.int .i64 t.settle,.slice A4 t.routes.length c4,.slice A5 t.bars.length c5] 34))) λW=>lJ t.settle 1000 W)
 have C5:=hid (λ(hpn:t.points.length=t.names.length)=>OneIs.keep (w0:=(w.alloc (.cells #[.slice A0 t.names.length c0,.slice A1 t.points.length c1,.slice A2 t.sigs.length c2,.int .i64 t.settle,.slice A4 t.routes.length c4,.slice A5 t.bars.length c5] 34))) λW hW=>show Calls Tryz.prog 28 #[.agg #[.slice A0 t.names.length c0,.slice A1 t.points.length c1,.slice A2 t.sigs.length c2,.int .i64 t.settle,.slice A4 t.routes.length c4,.slice A5 t.bars.length c5]] W (OneIs (.bool (Tb.ups (Tb.routeOk t) 0 t.routes.length)) W) from qM ⟨A0,c0,A1,c1,A2,c2,A4,c4,A5,c5,t⟩ W (HI.out.p1.below rfl hW) (HI.out.p4.below hW) hpn hB.route hB.routes)
 have C6:=hid (λW (hW:Below (w.alloc (.cells #[.slice A0 t.names.length c0,.slice A1 t.points.length c1,.slice A2 t.sigs.length c2,.int .i64 t.settle,.slice A4 t.routes.length c4,.slice A5 t.bars.length c5] 34)).heap.size (w.alloc (.cells #[.slice A0 t.names.length c0,.slice A1 t.points.length c1,.slice A2 t.sigs.length c2,.int .i64 t.settle,.slice A4 t.routes.length c4,.slice A5 t.bars.length c5] 34)) W)=>vC A4 c4 t.routes W (HI.out.p4.below hW) (λr hr=>(hB.route r hr).tiny) hB.routes)
 have C7:=hid (λB d W (hW:Below (w.alloc (.cells #[.slice A0 t.names.length c0,.slice A1 t.points.length c1,.slice A2 t.sigs.length c2,.int .i64 t.settle,.slice A4 t.routes.length c4,.slice A5 t.bars.length c5] 34)).heap.size (w.alloc (.cells #[.slice A0 t.names.length c0,.slice A1 t.points.length c1,.slice A2 t.sigs.length c2,.int .i64 t.settle,.slice A4 t.routes.length c4,.slice A5 t.bars.length c5] 34)) W) (hS:SetsIn W B (Cl.rows t.routes))=>AcN A5 c5 t.bars B d (Cl.rows t.routes) W (HI.out.p5.below hW) hB.bar hS hB.bars)
 rw[V.out]
 have HS:=hid (λ(h:Tb.sizesOk t=true)=>show t.points.length=t.names.length from by
  unfold Tb.sizesOk at h
  simp only[AsF,beq_iff_eq] at h
  have:=h.1.1.2
  omega)
 clear V h XX hB
 generalize hz1:Tb.sizesOk t=z1 at C1 HS ⊢
 generalize hz2:Tb.namesOk t.names=z2 at C2 ⊢
 generalize hz3:Tb.namesOk t.sigs=z3 at C3 ⊢
 generalize hz4:Tb.upTo t.settle 1000=z4 at C4 ⊢
 generalize hz5:Tb.ups (Tb.routeOk t) 0 t.routes.length=z5 at C5 ⊢
 have RL:=hid (Cl.rows_len t.routes)
 generalize hz6:decide (t.bars=Cl.rows t.routes)=z6 at C7 ⊢
 generalize Cl.rows t.routes=RR at C6 C7 RL
 clear hz1 hz2 hz3 hz4 hz5 hz6
 go_enter Tryz.func12,Tryz.ntmps12
 go_upto_region 1 with fail
 generalize w.alloc (.cells #[.slice A0 t.names.length c0,.slice A1 t.points.length c1,.slice A2 t.sigs.length c2,.int .i64 t.settle,.slice A4 t.routes.length c4,.slice A5 t.bars.length c5] 34)=w1 at X HI RP C1 C2 C3 C4 C5 C6 C7 ⊢
 generalize hg:w.heap.size=g at RP ⊢
 have gl:=(ArL RP.out).1
 have KB:=hid (λW (hW:Below w1.heap.size w1 W)=>(row6 ((hW.block _ gl).trans RP.out)).1)
 clear gl hg
 by_cases hall:(z1 && z2 && z3 && z4 && z5)=true
 ·simp only[AsF] at hall
  obtain⟨⟨⟨⟨rfl,rfl⟩,rfl⟩,rfl⟩,rfl⟩:=hall
  have C5':=hid (C5.out (HS.out rfl))
  have T0:=hid (AtB w1)
  clear C5 HS
  go_region_held3 (λW'=>W'.cell? ⟨g,0,none⟩=some (.slice A0 t.names.length c0)/\W'.cell? ⟨g,1,none⟩=some (.slice A1 t.points.length c1)/\W'.cell? ⟨g,2,none⟩=some (.slice A2 t.sigs.length c2)/\W'.cell? ⟨g,3,none⟩=some (.int .i64 t.settle)/\W'.cell? ⟨g,4,none⟩=some (.slice A4 t.routes.length c4)/\W'.cell? ⟨g,5,none⟩=some (.slice A5 t.bars.length c5))
   (first|with_reducible exact KB.out _ T0.out.drew|with_reducible exact KB.out _ h7|with_reducible exact KB.out _ h6|with_reducible exact KB.out _ h5|with_reducible exact KB.out _ h4|with_reducible exact KB.out _ h3|with_reducible exact KB.out _ h2|with_reducible exact KB.out _ h1)
   (first
    | (go_at_call 25;(with_reducible refine(C1.out _ T0.out.drew).mono ?_);rintro e1 w1 ⟨rfl,h1⟩)
    | (go_at_call 26;(with_reducible refine(C3.out _ h2).mono ?_);rintro e3 w3 ⟨rfl,h3⟩)
    | (go_at_call 26;(with_reducible refine(C2.out _ h1).mono ?_);rintro e2 w2 ⟨rfl,h2⟩)
    | (go_at_call 27;(with_reducible refine(C4.out _ h3).mono ?_);rintro e4 w4 ⟨rfl,h4⟩)
    | (go_at_call 28;(with_reducible refine(C5'.out _ h4).mono ?_);rintro e5 w5 ⟨rfl,h5⟩)
    | (go_at_call 14;(with_reducible refine(C6.out _ h5).mono ?_);rintro e6 w6 ⟨BM,dM,rfl,hM,hb6⟩;have h6:=h5.trans (hb6.mono h5.size);have HM:=hid hM;clear hM hb6)
    | (go_at_call 29;(with_reducible refine(C7.out _ _ _ h6 HM.out).mono ?_);rintro e7 w7 ⟨rfl,hb7⟩;have h7:=h6.trans (hb7.mono h6.size);clear hb7))
  have F7:=hid (X.out.trans (h7.mono X.out.size))
  clear h7 h6 h5 h4 h3 h2 h1
  go_wp2
  go_ret
  exact⟨rfl,F7.out⟩
 ·refine aS (λW=>Below w1.heap.size w1 W) (by kernel_rfl) (by kernel_rfl) (AtB w1).drew ?_
  repeat' ((first
   | refine InText.dead ?_
   | (refine InText.val (v:=?_) ?_ ?_;rotate_left;(focus (intro W hW;first|(go_simp;(try with_reducible rfl);done)|(obtain⟨p0,p1,p2,p3,p4,p5⟩:=KB.out W hW;go_simp;(try with_reducible rfl);done))))
   | (refine InText.call (v:=?_) (f:=?_) (args:=?_) ?_ ?_ ?_;rotate_left 3;(focus (intro W hW;go_simp;constructor;with_reducible rfl;with_reducible rfl));(focus (first|with_reducible exact C1.out|with_reducible exact C2.out|with_reducible exact C3.out|with_reducible exact C4.out|with_reducible exact C5.out (HS.out rfl))))
   | (refine InText.end_ λw4 hb4=>?_;have F4:=hid (X.out.trans (hb4.mono X.out.size));clear hb4;go_wp2_with fail;go_ret;exact⟨rfl,F4.out⟩)
   | exact absurd rfl hall
   | cases z1|cases z2|cases z3|cases z4|cases z5);(try simp only[Act.put,ArO,ArP,ArQ]))
 --]
end Go.Proofs.YtjofpclmbjpgjaaGreat
