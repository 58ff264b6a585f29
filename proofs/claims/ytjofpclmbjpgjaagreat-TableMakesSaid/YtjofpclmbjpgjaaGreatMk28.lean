/- Lemmas. -/
import Derived.Test.YtjofpclmbjpgjaaGreatMk27
set_option maxHeartbeats 16000000
set_option maxRecDepth 100000
namespace Go.Proofs.YtjofpclmbjpgjaaGreat
open Lib (hid)
open Go.RowKit
theorem kH (A:Option Addr) (c:Nat) (l:List Int) (w:World) (h:aF.Row w A l) (hl:l.length<=1000000) :
 Calls Tryz.prog 128 #[.slice A l.length c] w (OneIs (.bool (Tb.rises l)) w):=by
 --[
 have B0:=hid (AtB w)
 have HR:=hid h
 generalize hq:Tb.rises l=q
 have HQ:=hid (show Tb.ups (λi=>decide (l.getD (i-1) 0<l.getD i 0)) 1 l.length=q from hq)
 clear h hq
 go_enter Tryz.func128,Tryz.ntmps128
 go_wp2_with fail
 go_loopw [3] (λv w'=>∃ j:Nat,j<=l.length/\v=.int .i64 ((j:Int)+1)/\Tb.ups (λi=>decide (l.getD (i-1) 0<l.getD i 0)) (j+1) l.length=q/\Below w.heap.size w w') (λv _=>l.length+1-(intOf v).toNat)
 case atStart=>exact⟨0,AsD _,rfl,HQ.out,B0.out⟩
 case round =>
  clear HQ
  obtain⟨i,hj,rfl,hp,hb⟩:=hrel
  have HB:=hid hb
  have HP:=hid hp
  clear hp
  obtain⟨j,hij⟩:∃ j,j=i+1:=⟨_,rfl⟩
  have hji:(i:Int)+1=(j:Int):=by omega
  rw[hji]
  rw[<-hij] at HP
  by_cases hlt:j<l.length
  ·have hx:=ArN hlt
   have hy:=ArN (show i<l.length by omega)
   obtain⟨d1,j0,j1⟩:=ArK (show j<l.length by omega)
   have e1:(j:Int)-1=(i:Int):=by omega
   have w1:IntKind.i64.wrap ((j:Int)-1)=(i:Int):=by rw[IntWalk.i64_in _ (by omega)];omega
   have w2:IntKind.i64.wrap (i:Int)=(i:Int):=IntWalk.i64_in _ (by omega)
   have i0:(0:Int)<=(i:Int):=ArT i
   have i1:(i:Int)<(l.length:Int):=by omega
   have HP2:=hid (show (decide (l.getD i 0<l.getD j 0) && Tb.ups (λi=>decide (l.getD (i-1) 0<l.getD i 0)) (j+1) l.length)=q from by
    have:=HP.out
    rw[Tb.ups_step _ hlt,show j-1=i by omega] at this
    exact this)
   obtain⟨b,o,rfl,hbb,on,on'⟩:=(HR.out.below rfl hb).two hx hy
   rw[Tb.getD_at hx,Tb.getD_at hy] at HP2
   generalize l[j]=x at hx on HP2
   generalize l[i]=y at hy on' HP2
   have c0:=eU on
   have c1:=eU on'
   rw[show j*aF.m=j from Nat.mul_one _] at c0
   rw[show i*aF.m=i from Nat.mul_one _] at c1
   clear hb hx hy on on' HP hij hlt hji
   by_cases h2:y<x
   ·have D3:decide (x<=y)=false:=aB (by omega)
    have HT:=hid (show Tb.ups (λi=>decide (l.getD (i-1) 0<l.getD i 0)) (j+1) l.length=q from by have:=HP2.out;rw[decide_eq_true h2,Bool.true_and] at this;exact this)
    clear h2 HP2
    go_upto_region 4 with fail
    go_quiet (fail)
    go_wp2
    go_roundw
    case rel=>exact⟨j,by omega,by first|rfl|go_num,HT.out,aH HB.out _⟩
    case measure=>simp[intOf];omega
   have D3:decide (x<=y)=true:=aC (by omega)
   have HF:=hid (show false=q from by have:=HP2.out;rw[decide_eq_false h2,Bool.false_and] at this;exact this)
   clear h2 HP2
   go_upto_region 4 with fail
   go_quiet (fail)
   go_wp2
   go_ret
   exact⟨by rw[<-HF.out] <;> rfl,aH HB.out _⟩
  have d1:decide ((j:Int)<(l.length:Int))=false:=aB (by omega)
  have HF:=hid (show true=q from by have:=HP.out;rw[Tb.ups_over _ (by omega)] at this;exact this)
  clear hb HP hij hji
  go_wp2
  go_ret
  exact⟨by rw[<-HF.out] <;> rfl,HB.out⟩
 --]
theorem qL (A:Option Addr) (c:Nat) (l:List Pl.Nm) (w:World) (h:LTx.Row w A l) (hl:l.length<=1000000) :
 Calls Tryz.prog 57 #[.slice A l.length c] w (OneIs (.bool (Tb.risesN l)) w):=by
 --[
 have B0:=hid (AtB w)
 have HR:=hid h
 generalize hq:Tb.risesN l=q
 have HQ:=hid (show Tb.ups (λi=>decide (l.getD (i-1) []<l.getD i [])) 1 l.length=q from hq)
 clear h hq
 go_enter Tryz.func57,Tryz.ntmps57
 go_wp2_with fail
 go_loopw [3] (λv w'=>∃ j:Nat,j<=l.length/\v=.int .i64 ((j:Int)+1)/\Tb.ups (λi=>decide (l.getD (i-1) []<l.getD i [])) (j+1) l.length=q/\Below w.heap.size w w') (λv _=>l.length+1-(intOf v).toNat)
 case atStart=>exact⟨0,AsD _,rfl,HQ.out,B0.out⟩
 case round =>
  clear HQ
  obtain⟨i,hj,rfl,hp,hb⟩:=hrel
  have HB:=hid hb
  have HP:=hid hp
  clear hp
  obtain⟨j,hij⟩:∃ j,j=i+1:=⟨_,rfl⟩
  have hji:(i:Int)+1=(j:Int):=by omega
  rw[hji]
  rw[<-hij] at HP
  by_cases hlt:j<l.length
  ·have hx:=ArN hlt
   have hy:=ArN (show i<l.length by omega)
   obtain⟨d1,j0,j1⟩:=ArK (show j<l.length by omega)
   have e1:(j:Int)-1=(i:Int):=by omega
   have w1:IntKind.i64.wrap ((j:Int)-1)=(i:Int):=by rw[IntWalk.i64_in _ (by omega)];omega
   have w2:IntKind.i64.wrap (i:Int)=(i:Int):=IntWalk.i64_in _ (by omega)
   have i0:(0:Int)<=(i:Int):=ArT i
   have i1:(i:Int)<(l.length:Int):=by omega
   have HP2:=hid (show (decide (l.getD i []<l.getD j []) && Tb.ups (λi=>decide (l.getD (i-1) []<l.getD i [])) (j+1) l.length)=q from by
    have:=HP.out
    rw[Tb.ups_step _ hlt,show j-1=i by omega] at this
    exact this)
   obtain⟨b,o,rfl,hbb,on,on'⟩:=(HR.out.below rfl hb).two hx hy
   rw[Tb.getD_at hx,Tb.getD_at hy] at HP2
   generalize l[j]=x at hx on HP2
   generalize l[i]=y at hy on' HP2
   have c0:=kG on
   have c1:=kG on'
   rw[show j*LTx.m=j from Nat.mul_one _] at c0
   rw[show i*LTx.m=i from Nat.mul_one _] at c1
   clear hb hx hy on on' HP hij hlt hji
   by_cases h2:y<x
   ·have D3:Op.bytesLess (txt x).toList (txt y).toList=false:=by rw[tV];exact decide_eq_false (List.lt_asymm h2)
    have D4:((txt x).toList == (txt y).toList)=false:=by rw[bK,bK];exact ArU.2 λe=>List.lt_irrefl x (by rw[<-e] at h2;exact h2)
    have HT:=hid (show Tb.ups (λi=>decide (l.getD (i-1) []<l.getD i [])) (j+1) l.length=q from by have:=HP2.out;rw[decide_eq_true h2,Bool.true_and] at this;exact this)
    clear h2 HP2
    go_upto_region 4 with fail
    go_quiet (fail)
    go_wp2
    go_roundw
    case rel=>exact⟨j,by omega,by first|rfl|go_num,HT.out,aH HB.out _⟩
    case measure=>simp[intOf];omega
   obtain⟨z1,z2,D3,D4,D5⟩:∃ z1 z2,Op.bytesLess (txt x).toList (txt y).toList=z1/\((txt x).toList == (txt y).toList)=z2/\(z1=true∨z2=true):=⟨_,_,rfl,rfl,by rw[tV,bK,bK,AsC,beq_iff_eq];exact List.le_iff_lt_or_eq.1 (List.not_lt.1 h2)⟩
   have HF:=hid (show false=q from by have:=HP2.out;rw[decide_eq_false h2,Bool.false_and] at this;exact this)
   clear h2 HP2
   rcases z1 with _|_ <;> rcases z2 with _|_ <;> first|(exfalso;revert D5;decide;done)|skip
   all_goals clear D5
   all_goals go_upto_region 4 with fail
   all_goals go_quiet (fail)
   all_goals go_wp2_with fail
   all_goals go_ret
   all_goals exact⟨by rw[<-HF.out] <;> rfl,aH HB.out _⟩
  have d1:decide ((j:Int)<(l.length:Int))=false:=aB (by omega)
  have HF:=hid (show true=q from by have:=HP.out;rw[Tb.ups_over _ (by omega)] at this;exact this)
  clear hb HP hij hji
  go_wp2
  go_ret
  exact⟨by rw[<-HF.out] <;> rfl,HB.out⟩
 --]
theorem AcH (F:FuncId) (eg:∀ args w,(callFunc F args).run Tryz.prog w=.ok (.enter F args) w) (A:Option Addr) (c:Nat) (L:List Int) (q:Int->Bool) (g:Nat) (w:World) (h:aF.Row w A L) (hl:L.length<=1000000)
 (hq:∀ x∈L,∀ W,Below w.heap.size w W->Calls Tryz.prog F #[.int .i64 x,.pointer (some ⟨g,0,none⟩)] W λe w'=>e=.returned (.bool (q x))/\Below W.heap.size W w') :
 Calls Tryz.prog 153 #[.slice A L.length c,.func (.func F) #[] #[.pointer (some ⟨g,0,none⟩)]] w (xQ (L.any q) w):=by
 --[
 have IA:=hid h
 have CL:=hid hq
 clear h hq
 go_enter Tryz.func153,Tryz.ntmps153
 go_wp2
 go_loopg [5,8] L.length (λgg _ s8 wr=>∃ k:Nat,k<=L.length/\L.length-k<=gg/\s8=.int .i64 k/\Below w.heap.size w wr/\∀ j<k,∀ t,L[j]?=some t->q t=false)
 case atStart=>exact⟨0,AsD _,by omega,rfl,Below.refl _ w,λj hj=>absurd hj (Nat.not_lt_zero _)⟩
 case round =>
  obtain⟨k,hk,hgg,rfl,hB,h0⟩:=hrel
  have HB:=hid hB
  have H0:=hid h0
  clear hB h0
  by_cases hlt:k<L.length
  ·have d1:decide ((k:Int)<(L.length:Int))=true:=aC (by omega)
   have hx:=ArN hlt
   obtain⟨b,o,rfl,hb,on⟩:=(IA.out.below rfl HB.out).at hlt
   have CX:=hid (CL.out _ (List.getElem_mem hlt) wr HB.out)
   generalize L[k]=x at hx on CX
   have a0:=eU on
   rw[show k*aF.m=k from Nat.mul_one _] at a0
   have HX:=hid hx
   clear on hx
   cases h1:q x with
   | true =>
     rw[h1] at CX
     have P:=hid (show L.any q=true from List.any_eq_true.2 ⟨x,ArX HX.out,h1⟩)
     clear h1
     go_wp2_with (refine CX.out.mono ?_;rintro e w' ⟨rfl,hb'⟩;have HB2:=hid (HB.out.trans (hb'.mono HB.out.size));clear hb')
     go_ret
     exact⟨(k:Int),rfl,(λ_=>aC (by omega)),(λh=>absurd (P.out.symm.trans h) (by decide)),HB2.out⟩
   | false =>
     rw[h1] at CX
     have N:=hid (λj (hj:j<k+1) t (ht:L[j]?=some t)=>(show q t=false from by
      by_cases hjk:j=k
      ·subst hjk
       rw[HX.out] at ht
       cases ht
       exact h1
      exact H0.out j (by omega) t ht))
     clear h1
     go_wp2_with (refine CX.out.mono ?_;rintro e w' ⟨rfl,hb'⟩;have HB2:=hid (HB.out.trans (hb'.mono HB.out.size));clear hb')
     go_roundg (L.length-(k+1))
     case measure=>omega
     case rel=>exact⟨k+1,by omega,by omega,by go_num,HB2.out,N.out⟩
  obtain rfl:k=L.length:=by omega
  have P:=hid (show L.any q=false from by
   rw[List.any_eq_false]
   intro x hx
   obtain⟨j,hj,rfl⟩:=List.getElem_of_mem hx
   rw[H0.out j hj _ (ArN hj)]
   decide)
  go_wp2
  go_ret
  exact⟨-1,rfl,(λh=>absurd (P.out.symm.trans h) (by decide)),(λ_=>rfl),HB.out⟩
 --]
theorem AmG (F:FuncId) (eg:∀ args w,(callFunc F args).run Tryz.prog w=.ok (.enter F args) w) (A:Option Addr) (c:Nat) (L:List Int) (q:Int->Bool) (g:Nat) (w:World) (h:aF.Row w A L) (hl:L.length<=1000000)
 (hq:∀ x∈L,∀ W,Below w.heap.size w W->Calls Tryz.prog F #[.int .i64 x,.pointer (some ⟨g,0,none⟩)] W λe w'=>e=.returned (.bool (q x))/\Below W.heap.size W w') :
 Calls Tryz.prog 130 #[.slice A L.length c,.func (.func F) #[] #[.pointer (some ⟨g,0,none⟩)]] w (OneIs (.bool (L.any q)) w):=by
 --[
 have HC:=hid (AcH F eg A c L q g w h hl hq)
 clear h hq
 generalize L.any q=z at HC ⊢
 go_enter Tryz.func130,Tryz.ntmps130
 go_wp2_with fail
 refine HC.out.mono ?_;rintro e w' ⟨i,rfl,h1,h2,hb'⟩
 have HB:=hid hb'
 clear hb' HC
 cases z with
 | true =>
   have D:=h1 rfl
   clear h1 h2
   go_wp2
   go_ret
   exact⟨rfl,HB.out⟩
 | false =>
   obtain rfl:=h2 rfl
   clear h1 h2
   go_wp2
   go_ret
   exact⟨rfl,HB.out⟩
 --]
theorem yN (F:FuncId) (eg:∀ args w,(callFunc F args).run Tryz.prog w=.ok (.enter F args) w) (A:Option Addr) (c:Nat) (L:List Pl.Nm) (q:Pl.Nm->Bool) (w:World) (h:LTx.Row w A L) (hl:L.length<=1000000)
 (hq:∀ x∈L,∀ W,Below w.heap.size w W->Calls Tryz.prog F #[.string (txt x)] W λe w'=>e=.returned (.bool (q x))/\Below W.heap.size W w') :
 Calls Tryz.prog 88 #[.slice A L.length c,.func (.func F) #[] #[]] w (xQ (L.any q) w):=by
 --[
 have IA:=hid h
 have CL:=hid hq
 clear h hq
 go_enter Tryz.func88,Tryz.ntmps88
 go_wp2
 go_loopg [5,8] L.length (λgg _ s8 wr=>∃ k:Nat,k<=L.length/\L.length-k<=gg/\s8=.int .i64 k/\Below w.heap.size w wr/\∀ j<k,∀ t,L[j]?=some t->q t=false)
 case atStart=>exact⟨0,AsD _,by omega,rfl,Below.refl _ w,λj hj=>absurd hj (Nat.not_lt_zero _)⟩
 case round =>
  obtain⟨k,hk,hgg,rfl,hB,h0⟩:=hrel
  have HB:=hid hB
  have H0:=hid h0
  clear hB h0
  by_cases hlt:k<L.length
  ·have d1:decide ((k:Int)<(L.length:Int))=true:=aC (by omega)
   have hx:=ArN hlt
   obtain⟨b,o,rfl,hb,on⟩:=(IA.out.below rfl HB.out).at hlt
   have CX:=hid (CL.out _ (List.getElem_mem hlt) wr HB.out)
   generalize L[k]=x at hx on CX
   have a0:=kG on
   rw[show k*LTx.m=k from Nat.mul_one _] at a0
   have HX:=hid hx
   clear on hx
   cases h1:q x with
   | true =>
     rw[h1] at CX
     have P:=hid (show L.any q=true from List.any_eq_true.2 ⟨x,ArX HX.out,h1⟩)
     clear h1
     go_wp2_with (refine CX.out.mono ?_;rintro e w' ⟨rfl,hb'⟩;have HB2:=hid (HB.out.trans (hb'.mono HB.out.size));clear hb')
     go_ret
     exact⟨(k:Int),rfl,(λ_=>aC (by omega)),(λh=>absurd (P.out.symm.trans h) (by decide)),HB2.out⟩
   | false =>
     rw[h1] at CX
     have N:=hid (λj (hj:j<k+1) t (ht:L[j]?=some t)=>(show q t=false from by
      by_cases hjk:j=k
      ·subst hjk
       rw[HX.out] at ht
       cases ht
       exact h1
      exact H0.out j (by omega) t ht))
     clear h1
     go_wp2_with (refine CX.out.mono ?_;rintro e w' ⟨rfl,hb'⟩;have HB2:=hid (HB.out.trans (hb'.mono HB.out.size));clear hb')
     go_roundg (L.length-(k+1))
     case measure=>omega
     case rel=>exact⟨k+1,by omega,by omega,by go_num,HB2.out,N.out⟩
  obtain rfl:k=L.length:=by omega
  have P:=hid (show L.any q=false from by
   rw[List.any_eq_false]
   intro x hx
   obtain⟨j,hj,rfl⟩:=List.getElem_of_mem hx
   rw[H0.out j hj _ (ArN hj)]
   decide)
  go_wp2
  go_ret
  exact⟨-1,rfl,(λh=>absurd (P.out.symm.trans h) (by decide)),(λ_=>rfl),HB.out⟩
 --]
theorem AhP (F:FuncId) (eg:∀ args w,(callFunc F args).run Tryz.prog w=.ok (.enter F args) w) (A:Option Addr) (c:Nat) (L:List Pl.Nm) (q:Pl.Nm->Bool) (w:World) (h:LTx.Row w A L) (hl:L.length<=1000000)
 (hq:∀ x∈L,∀ W,Below w.heap.size w W->Calls Tryz.prog F #[.string (txt x)] W λe w'=>e=.returned (.bool (q x))/\Below W.heap.size W w') :
 Calls Tryz.prog 58 #[.slice A L.length c,.func (.func F) #[] #[]] w (OneIs (.bool (L.any q)) w):=by
 --[
 have HC:=hid (yN F eg A c L q w h hl hq)
 clear h hq
 generalize L.any q=z at HC ⊢
 go_enter Tryz.func58,Tryz.ntmps58
 go_wp2_with fail
 refine HC.out.mono ?_;rintro e w' ⟨i,rfl,h1,h2,hb'⟩
 have HB:=hid hb'
 clear hb' HC
 cases z with
 | true =>
   have D:=h1 rfl
   clear h1 h2
   go_wp2
   go_ret
   exact⟨rfl,HB.out⟩
 | false =>
   obtain rfl:=h2 rfl
   clear h1 h2
   go_wp2
   go_ret
   exact⟨rfl,HB.out⟩
 --]
theorem yO (F:FuncId) (eg:∀ args w,(callFunc F args).run Tryz.prog w=.ok (.enter F args) w) (A:Option Addr) (c:Nat) (L:List Wk.Stp) (q:Wk.Stp->Bool) (g:Nat) (w:World) (h:aE.Row w A L) (hl:L.length<=1000000)
 (hq:∀ x∈L,∀ W,Below w.heap.size w W->Calls Tryz.prog F #[jX x,.pointer (some ⟨g,0,none⟩)] W λe w'=>e=.returned (.bool (q x))/\Below W.heap.size W w') :
 Calls Tryz.prog 152 #[.slice A L.length c,.func (.func F) #[] #[.pointer (some ⟨g,0,none⟩)]] w (xQ (L.any q) w):=by
 --[
 have IA:=hid h
 have CL:=hid hq
 clear h hq
 go_enter Tryz.func152,Tryz.ntmps152
 go_wp2
 go_loopg [5,8] L.length (λgg _ s8 wr=>∃ k:Nat,k<=L.length/\L.length-k<=gg/\s8=.int .i64 k/\Below w.heap.size w wr/\∀ j<k,∀ t,L[j]?=some t->q t=false)
 case atStart=>exact⟨0,AsD _,by omega,rfl,Below.refl _ w,λj hj=>absurd hj (Nat.not_lt_zero _)⟩
 case round =>
  obtain⟨k,hk,hgg,rfl,hB,h0⟩:=hrel
  have HB:=hid hB
  have H0:=hid h0
  clear hB h0
  by_cases hlt:k<L.length
  ·have d1:decide ((k:Int)<(L.length:Int))=true:=aC (by omega)
   have hx:=ArN hlt
   obtain⟨b,o,rfl,hb,on⟩:=(IA.out.below rfl HB.out).at hlt
   have CX:=hid (CL.out _ (List.getElem_mem hlt) wr HB.out)
   generalize L[k]=x at hx on CX
   obtain⟨a0,a1,a2⟩:=bL on
   rw[show k*aE.m=k*3 from rfl] at a0 a1 a2
   have HX:=hid hx
   clear on hx
   cases h1:q x with
   | true =>
     rw[h1] at CX
     have P:=hid (show L.any q=true from List.any_eq_true.2 ⟨x,ArX HX.out,h1⟩)
     clear h1
     go_wp2_with (refine CX.out.mono ?_;rintro e w' ⟨rfl,hb'⟩;have HB2:=hid (HB.out.trans (hb'.mono HB.out.size));clear hb')
     go_ret
     exact⟨(k:Int),rfl,(λ_=>aC (by omega)),(λh=>absurd (P.out.symm.trans h) (by decide)),HB2.out⟩
   | false =>
     rw[h1] at CX
     have N:=hid (λj (hj:j<k+1) t (ht:L[j]?=some t)=>(show q t=false from by
      by_cases hjk:j=k
      ·subst hjk
       rw[HX.out] at ht
       cases ht
       exact h1
      exact H0.out j (by omega) t ht))
     clear h1
     go_wp2_with (refine CX.out.mono ?_;rintro e w' ⟨rfl,hb'⟩;have HB2:=hid (HB.out.trans (hb'.mono HB.out.size));clear hb')
     go_roundg (L.length-(k+1))
     case measure=>omega
     case rel=>exact⟨k+1,by omega,by omega,by go_num,HB2.out,N.out⟩
  obtain rfl:k=L.length:=by omega
  have P:=hid (show L.any q=false from by
   rw[List.any_eq_false]
   intro x hx
   obtain⟨j,hj,rfl⟩:=List.getElem_of_mem hx
   rw[H0.out j hj _ (ArN hj)]
   decide)
  go_wp2
  go_ret
  exact⟨-1,rfl,(λh=>absurd (P.out.symm.trans h) (by decide)),(λ_=>rfl),HB.out⟩
 --]
theorem AhQ (F:FuncId) (eg:∀ args w,(callFunc F args).run Tryz.prog w=.ok (.enter F args) w) (A:Option Addr) (c:Nat) (L:List Wk.Stp) (q:Wk.Stp->Bool) (g:Nat) (w:World) (h:aE.Row w A L) (hl:L.length<=1000000)
 (hq:∀ x∈L,∀ W,Below w.heap.size w W->Calls Tryz.prog F #[jX x,.pointer (some ⟨g,0,none⟩)] W λe w'=>e=.returned (.bool (q x))/\Below W.heap.size W w') :
 Calls Tryz.prog 126 #[.slice A L.length c,.func (.func F) #[] #[.pointer (some ⟨g,0,none⟩)]] w (OneIs (.bool (L.any q)) w):=by
 --[
 have HC:=hid (yO F eg A c L q g w h hl hq)
 clear h hq
 generalize L.any q=z at HC ⊢
 go_enter Tryz.func126,Tryz.ntmps126
 go_wp2_with fail
 refine HC.out.mono ?_;rintro e w' ⟨i,rfl,h1,h2,hb'⟩
 have HB:=hid hb'
 clear hb' HC
 cases z with
 | true =>
   have D:=h1 rfl
   clear h1 h2
   go_wp2
   go_ret
   exact⟨rfl,HB.out⟩
 | false =>
   obtain rfl:=h2 rfl
   clear h1 h2
   go_wp2
   go_ret
   exact⟨rfl,HB.out⟩
 --]
theorem yP (x n:Int) (w:World):Calls Tryz.prog 91 #[.int .i64 x,.int .i64 n] w λe w'=>e=.returned (.bool (Tb.isIn x n))/\w'=w:=by
 --[
 show Calls Tryz.prog 91 #[.int .i64 x,.int .i64 n] w λe w'=>e=.returned (.bool (decide (0<=x) && decide (x<n)))/\w'=w
 generalize hz1:decide (0<=x)=z1
 generalize hz2:decide (x<n)=z2
 go_enter Tryz.func91,Tryz.ntmps91
 cases z1 with
 | false =>
   go_wp2
   go_ret
   exact⟨rfl,rfl⟩
 | true =>
   go_wp2
   go_ret
   exact⟨rfl,rfl⟩
 --]
theorem lJ (x n:Int) (w:World):Calls Tryz.prog 27 #[.int .i64 x,.int .i64 n] w λe w'=>e=.returned (.bool (Tb.upTo x n))/\w'=w:=by
 --[
 show Calls Tryz.prog 27 #[.int .i64 x,.int .i64 n] w λe w'=>e=.returned (.bool (decide (0<=x) && decide (x<=n)))/\w'=w
 generalize hz1:decide (0<=x)=z1
 generalize hz2:decide (x<=n)=z2
 go_enter Tryz.func27,Tryz.ntmps27
 cases z1 with
 | false =>
   go_wp2
   go_ret
   exact⟨rfl,rfl⟩
 | true =>
   go_wp2
   go_ret
   exact⟨rfl,rfl⟩
 --]
theorem AcI (x:Wk.Stp) (pt:Bool) (w:World):Calls Tryz.prog 125 #[jX x,.bool pt] w (OneIs (.bool (Tb.throughOk pt x)) w):=by
 --[
 obtain⟨xs,xf,xt⟩:=x
 have XX:=(AtB w).alloc (ArR _) (jB ⟨xs,xf,xt⟩)
 have X:=hid XX
 have RS:=AsW w (jB ⟨xs,xf,xt⟩)
 have c1:=AsY _ w.heap.size 1 _ _ _ RS
 have c2:=AsY _ w.heap.size 2 _ _ _ RS
 have V:=hid (show Tb.throughOk pt ⟨xs,xf,xt⟩=((min xf xt == 0) && decide (0<max xf xt) && decide (max xf xt<=if pt=true then 2 else 1)) from rfl)
 clear XX RS
 rw[V.out]
 clear V
 show Calls Tryz.prog 125 #[.agg #[.int .i64 xs,.int .i64 xf,.int .i64 xt],.bool pt] w _
 cases pt with
 | true =>
   rw[ArZ rfl]
   generalize hz1:(min xf xt == 0)=z1
   generalize hz2:decide (0<max xf xt)=z2
   generalize hz3:decide (max xf xt<=2)=z3
   go_enter Tryz.func125,Tryz.ntmps125
   cases z1 with
   | false =>
     go_wp2
     go_ret
     exact⟨rfl,X.out⟩
   | true =>
     cases z2 with
     | false =>
       go_wp2
       go_ret
       exact⟨rfl,X.out⟩
     | true =>
       go_wp2
       go_ret
       exact⟨rfl,X.out⟩
 | false =>
   rw[ArY (by decide)]
   generalize hz1:(min xf xt == 0)=z1
   generalize hz2:decide (0<max xf xt)=z2
   generalize hz3:decide (max xf xt<=1)=z3
   go_enter Tryz.func125,Tryz.ntmps125
   cases z1 with
   | false =>
     go_wp2
     go_ret
     exact⟨rfl,X.out⟩
   | true =>
     cases z2 with
     | false =>
       go_wp2
       go_ret
       exact⟨rfl,X.out⟩
     | true =>
       go_wp2
       go_ret
       exact⟨rfl,X.out⟩
 --]
theorem AhR (x:Pl.Nm) (w:World) (hx:x.length<=1000000):Calls Tryz.prog 59 #[.string (txt x)] w λe w'=>e=.returned (.bool (!Fig.nameB x))/\Below w.heap.size w w':=by
 --[
 have C:=hid (ApL x w hx (Fig.nameB x) rfl)
 generalize Fig.nameB x=z at C ⊢
 have B0:=hid (AtB w)
 go_enter Tryz.func59,Tryz.ntmps59
 go_wp2_with fail
 refine C.out.mono ?_;rintro e w' ⟨rfl,rfl⟩
 go_wp2
 go_ret
 exact⟨rfl,B0.out⟩
 --]
theorem kI (A:Option Addr) (c:Nat) (l:List Pl.Nm) (w:World) (h:LTx.Row w A l) (hl:l.length<=1000000) (hn:∀ x∈l,x.length<=1000000) :
 Calls Tryz.prog 26 #[.slice A l.length c] w (OneIs (.bool (Tb.namesOk l)) w):=by
 --[
 have C1:=hid (qL A c l w h hl)
 have C2:=hid (λW (hW:Below w.heap.size w W)=>AhP 59 (enters_of Tryz.func59 (by kernel_rfl) rfl) A c l (λx=>!Fig.nameB x) W (h.below rfl hW) hl (λx hx W' _=>AhR x W' (hn x hx)))
 rw[<-Tb.named_eq l]
 generalize Tb.risesN l=z1 at C1 ⊢
 generalize (l.any λx=>!Fig.nameB x)=z2 at C2 ⊢
 clear h hn
 go_enter Tryz.func26,Tryz.ntmps26
 go_wp2_with fail
 refine C1.out.mono ?_;rintro e w1 ⟨rfl,hb1⟩
 have B1:=hid hb1
 clear hb1 C1
 cases z1 with
 | false =>
   go_wp2
   go_ret
   exact⟨rfl,B1.out⟩
 | true =>
   go_wp2_with fail
   refine(C2.out _ B1.out).mono ?_;rintro e w2 ⟨rfl,hb2⟩
   have B2:=hid (B1.out.trans (hb2.mono B1.out.size))
   clear hb2 C2
   go_wp2
   go_ret
   exact⟨rfl,B2.out⟩
 --]
theorem AcJ (x n:Int) (g:Nat) (w:World) (hg:w.cell? ⟨g,0,none⟩=some (.int .i64 n)):Calls Tryz.prog 131 #[.int .i64 x,.pointer (some ⟨g,0,none⟩)] w λe w'=>e=.returned (.bool (!Tb.isIn x n))/\Below w.heap.size w w':=by
 --[
 have C:=hid (yP x n w)
 generalize Tb.isIn x n=z at C ⊢
 have B0:=hid (AtB w)
 go_enter Tryz.func131,Tryz.ntmps131
 go_wp2_with fail
 refine C.out.mono ?_;rintro e w' ⟨rfl,rfl⟩
 go_wp2
 go_ret
 exact⟨rfl,B0.out⟩
 --]
theorem iN (A:Option Addr) (c:Nat) (l:List Int) (n:Int) (w:World) (h:aF.Row w A l) (hl:l.length<=1000000) :
 Calls Tryz.prog 96 #[.slice A l.length c,.int .i64 n] w (OneIs (.bool (Tb.risingOk l n)) w):=by
 --[
 have XX:=(AtB w).alloc (ArR _) (.cells #[.int .i64 n] 3)
 have X:=hid XX
 have RP:=hid (AsW w (.cells #[.int .i64 n] 3))
 have hsz:w.heap.size<(w.alloc (.cells #[.int .i64 n] 3)).heap.size:=by simp
 have C1:=hid (kH A c l _ (h.below rfl XX) hl)
 have C2:=hid (λW (hW:Below (w.alloc (.cells #[.int .i64 n] 3)).heap.size (w.alloc (.cells #[.int .i64 n] 3)) W)=>AmG 131 (enters_of Tryz.func131 (by kernel_rfl) rfl) A c l (λx=>!Tb.isIn x n) w.heap.size W ((h.below rfl XX).below rfl hW) hl (λx _ W' hW'=>AcJ x n w.heap.size W'
  (AsY _ _ 0 _ _ _ ((hW'.block _ (AsE hsz hW.size)).trans ((hW.block _ hsz).trans (AsW w _))))))
 rw[<-Tb.places_eq l n]
 generalize Tb.rises l=z1 at C1 ⊢
 generalize (l.any λx=>!Tb.isIn x n)=z2 at C2 ⊢
 clear h XX hsz
 go_enter Tryz.func96,Tryz.ntmps96
 go_upto_region 1 with fail
 generalize w.alloc (.cells #[.int .i64 n] 3)=w1 at X RP C1 C2 ⊢
 generalize w.heap.size=g at RP C2 ⊢
 go_wp2_with fail
 refine C1.out.mono ?_;rintro e w2 ⟨rfl,hb1⟩
 have B1:=hid hb1
 have F1:=hid (X.out.trans (hb1.mono X.out.size))
 clear hb1 C1
 cases z1 with
 | false =>
   go_wp2
   go_ret
   exact⟨rfl,F1.out⟩
 | true =>
   go_wp2_with fail
   refine(C2.out _ B1.out).mono ?_;rintro e w3 ⟨rfl,hb2⟩
   have F2:=hid (F1.out.trans (hb2.mono F1.out.size))
   clear hb2 C2
   go_wp2
   go_ret
   exact⟨rfl,F2.out⟩
 --]
theorem AoL (x:Wk.Stp) (A':Option Addr) (c':Nat) (M:List Wk.Stp) (g:Nat) (w:World) (hg:w.cell? ⟨g,0,none⟩=some (.slice A' M.length c')) (hlt:g<w.heap.size) (hM:aE.Row w A' M) (hl:M.length<=1000000):Calls Tryz.prog 127 #[jX x,.pointer (some ⟨g,0,none⟩)] w λe w'=>e=.returned (.bool (Wk.within M x.s))/\Below w.heap.size w w':=by
 --[
 obtain⟨a,b,d⟩:=x
 have XX:=(AtB w).alloc (ArR _) (jB ⟨a,b,d⟩)
 have X:=hid XX
 have C:=hid (bG A' c' M a _ (hM.below rfl XX) hl)
 clear hM XX
 show Calls Tryz.prog 127 #[.agg #[.int .i64 a,.int .i64 b,.int .i64 d],.pointer (some ⟨g,0,none⟩)] w λe w'=>e=.returned (.bool (Wk.within M a))/\Below w.heap.size w w'
 generalize Wk.within M a=z at C ⊢
 go_enter Tryz.func127,Tryz.ntmps127
 go_wp2_with fail
 refine C.out.mono ?_;rintro e w2 ⟨rfl,hb2⟩
 have XF:=hid (X.out.trans (hb2.mono X.out.size))
 clear hb2 C X
 go_wp2
 go_ret
 exact⟨rfl,XF.out⟩
 --]
theorem uW (A:Option Addr) (c:Nat) (L:List Wk.Stp) (A':Option Addr) (c':Nat) (M:List Wk.Stp) (w:World) (h:aE.Row w A L) (hl:L.length<=1000000) (h':aE.Row w A' M) (hl':M.length<=1000000) :
 Calls Tryz.prog 93 #[.slice A L.length c,.slice A' M.length c'] w (OneIs (.bool (!L.any λx=>Wk.within M x.s)) w):=by
 --[
 have XX:=(AtB w).alloc (ArR _) (.cells #[.slice A' M.length c'] 86)
 have X:=hid XX
 have hsz:w.heap.size<(w.alloc (.cells #[.slice A' M.length c'] 86)).heap.size:=by simp
 have C:=hid (AhQ 127 (enters_of Tryz.func127 (by kernel_rfl) rfl) A c L (λx=>Wk.within M x.s) w.heap.size _ (h.below rfl XX) hl (λx _ W hW=>AoL x A' c' M w.heap.size W
  (AsY _ _ 0 _ _ _ ((hW.block _ hsz).trans (AsW w _))) (AsE hsz hW.size) ((h'.below rfl XX).below rfl hW) hl'))
 generalize (L.any λx=>Wk.within M x.s)=z at C ⊢
 clear h h' XX hsz
 go_enter Tryz.func93,Tryz.ntmps93
 go_wp2_with fail
 refine C.out.mono ?_;rintro e w1 ⟨rfl,hb1⟩
 have F1:=hid (X.out.trans (hb1.mono X.out.size))
 clear hb1 C X
 go_wp2
 go_ret
 exact⟨rfl,F1.out⟩
 --]
theorem uX (m:TableM) (w:World):Calls Tryz.prog 25 #[tbV m] w (OneIs (.bool (Tb.sizesOk m.t)) w):=by
 --[
 have XX:=(AtB w).alloc (ArR _) (tbO m)
 have X:=hid XX
 obtain⟨⟨p0,p1,p2,p3,p4,p5⟩,gx⟩:=cA (AsW w (tbO m))
 have V:=hid (show Tb.sizesOk m.t=(decide ((m.t.names.length:Int)<=24) && ((m.t.points.length:Int) == (m.t.names.length:Int)) && decide ((m.t.sigs.length:Int)<=12) && decide ((m.t.routes.length:Int)<=30)) from rfl)
 rw[V.out]
 have hy1:decide (m.t.names.length<=24)=decide ((m.t.names.length:Int)<=24):=by congr 1;rw[eq_iff_iff];omega
 have hy3:decide (m.t.sigs.length<=12)=decide ((m.t.sigs.length:Int)<=12):=by congr 1;rw[eq_iff_iff];omega
 have hy4:decide (m.t.routes.length<=30)=decide ((m.t.routes.length:Int)<=30):=by congr 1;rw[eq_iff_iff];omega
 generalize hz1:decide ((m.t.names.length:Int)<=24)=z1 at hy1 ⊢
 generalize hz2:((m.t.points.length:Int) == (m.t.names.length:Int))=z2
 generalize hz3:decide ((m.t.sigs.length:Int)<=12)=z3 at hy3 ⊢
 generalize hz4:decide ((m.t.routes.length:Int)<=30)=z4 at hy4 ⊢
 clear XX V
 go_enter Tryz.func25,Tryz.ntmps25
 go_upto_region 1 with fail
 generalize w.alloc (tbO m)=w1 at X p0 p1 p2 p3 p4 p5 gx ⊢
 generalize w.heap.size=g at p0 p1 p2 p3 p4 p5 gx ⊢
 cases z1 with
 | false =>
   go_wp2
   go_ret
   exact⟨rfl,X.out⟩
 | true =>
 cases z2 with
 | false =>
   go_wp2
   go_ret
   exact⟨rfl,X.out⟩
 | true =>
 cases z3 with
 | false =>
   go_wp2
   go_ret
   exact⟨rfl,X.out⟩
 | true =>
   go_wp2
   go_ret
   exact⟨rfl,X.out⟩
 --]
open Go
section
variable {P : Program} {ops : Array Oper} {S : World -> Prop}
inductive Gives (P:Program) (ops:Array Oper) (S:World->Prop) (o:Oper) (a:Act) (v:Value):Prop
 | dead (h:Region.wanted o (yielded ops a.tmps)=false) (hv:v=undef)
 | val (h:Region.wanted o (yielded ops a.tmps)=true) (hv:∀ w,S w->(execOp a.eval o).run P w=.ok (.value v) w)
 | call (h:Region.wanted o (yielded ops a.tmps)=true) (f:FuncId) (args:Array Value) (hr:∀ w,S w->(execOp a.eval o).run P w=.ok (.enter f args) w) (hv:∀ w,S w->Calls P f args w λe w'=>e=.returned v/\S w')
def InText (P:Program) (ops:Array Oper) (S:World->Prop) (K:Act->Prop):List Oper->Act->Prop
 | [],a=>K a
 | o :: os,a=>∃ v,Gives P ops S o a v/\InText P ops S K os (a.put o.dst v)
theorem InText.dead {K:Act->Prop} {o:Oper} {os:List Oper} {a:Act} (hk:InText P ops S K os (a.put o.dst undef)) (h:Region.wanted o (yielded ops a.tmps)=false:=by rfl):InText P ops S K (o :: os) a:=⟨undef,.dead h rfl,hk⟩
theorem InText.val {K:Act->Prop} {o:Oper} {os:List Oper} {a:Act} {v:Value} (hv:∀ w,S w->(execOp a.eval o).run P w=.ok (.value v) w) (hk:InText P ops S K os (a.put o.dst v)) (h:Region.wanted o (yielded ops a.tmps)=true:=by rfl):InText P ops S K (o :: os) a:=⟨v,.val h hv,hk⟩
theorem InText.call {K:Act->Prop} {o:Oper} {os:List Oper} {a:Act} {v:Value} {f:FuncId} {args:Array Value} (hr:∀ w,S w->(execOp a.eval o).run P w=.ok (.enter f args) w) (hv:∀ w,S w->Calls P f args w λe w'=>e=.returned v/\S w') (hk:InText P ops S K os (a.put o.dst v)) (h:Region.wanted o (yielded ops a.tmps)=true:=by rfl):InText P ops S K (o :: os) a:=⟨v,.call h f args hr hv,hk⟩
theorem InText.end_ {K:Act->Prop} {a:Act} (h:K a):InText P ops S K [] a:=h
def aP (ops:Array Oper) (V:Nat->Value) (l:Nat->Bool) (a:Act):Nat->Act
 | 0=>a
 | n+1=>if l n=true then(aP ops V l a n).put ((ops[n]?).bind (·.dst)) (V n) else aP ops V l a n
theorem uY (a:Act) (d:Option Tmp) (v:Value):(a.put d v).tmps.size=a.tmps.size:=by cases d <;> simp[Act.put]
theorem fX (a:Act) (d:Option Tmp) (v:Value) {t:Nat} (h:d≠some t):(a.put d v).tmps[t]?=a.tmps[t]?:=by
 cases d with
 | none=>rfl
 | some x=>exact Array.getElem?_setIfInBounds_ne (λe=>h (by rw[e]))
theorem uZ (a b:Act) (t:Nat) (v:Value) (h:a.tmps.size=b.tmps.size):(a.put (some t) v).tmps[t]?=(b.put (some t) v).tmps[t]?:=by
 simp only[Act.put,Array.getElem?_setIfInBounds_self,h]
theorem dR (ops:Array Oper) (V:Nat->Value) (l:Nat->Bool) (a:Act):∀ n,(aP ops V l a n).tmps.size=a.tmps.size
 | 0=>rfl
 | n+1=>by
   unfold aP
   split
   ·rw[uY,dR]
   exact dR ops V l a n
theorem cI (ops:Array Oper) (V:Nat->Value) {l l':Nat->Bool} (a:Act):∀ n,(∀ k,k<n->l k=l' k)->aP ops V l a n=aP ops V l' a n
 | 0,_=>rfl
 | n+1,h=>by
   unfold aP
   rw[h n (Nat.lt_succ_self n),cI ops V a n λk hk=>h k (Nat.lt_succ_of_lt hk)]
theorem kJ (ops:Array Oper) (V:Nat->Value) {l l':Nat->Bool} (a:Act) {t:Nat}:∀ n,(∀ k,k<n->l k≠l' k->(ops[k]?).bind (·.dst)≠some t)->(aP ops V l a n).tmps[t]?=(aP ops V l' a n).tmps[t]?
 | 0,_=>rfl
 | n + 1,h=>by
   have ih:=kJ ops V (l:=l) (l':=l') a n λk hk=>h k (Nat.lt_succ_of_lt hk)
   have hs:(aP ops V l a n).tmps.size=(aP ops V l' a n).tmps.size:=by rw[dR,dR]
   unfold aP
   by_cases hd:(ops[n]?).bind (·.dst)=some t
   ·have hl:l n=l' n:=Decidable.byContradiction λhne=>h n (Nat.lt_succ_self n) hne hd
    rw[hl]
    split
    ·rw[hd];exact uZ _ _ t (V n) hs
    exact ih
   split <;> split
   ·rw[fX _ _ _ hd,fX _ _ _ hd];exact ih
   ·rw[fX _ _ _ hd];exact ih
   ·rw[fX _ _ _ hd];exact ih
   exact ih
theorem AhS {o:Oper} (hs:∀ cs b,o.op≠.select cs b) {a b:Act} (h:∀ t∈o.looksAt ops,a.tmps[t]?=b.tmps[t]?):execOp a.eval o=execOp b.eval o/\Region.wanted o (yielded ops a.tmps)=Region.wanted o (yielded ops b.tmps):=by
 constructor
 ·refine execOp_congr o hs λx hx=>?_
  cases x with
  | tmp t =>
    have:=h t (List.mem_append_left _ (List.mem_filterMap.2 ⟨.tmp t,by simpa using hx,rfl⟩))
    simp only[Act.eval,Array.getD_eq_getD_getElem?,this]
  | _=>rfl
 unfold Region.wanted
 cases hg:o.guard with
 | none=>rfl
 | some gw =>
   obtain⟨g,want⟩:=gw
   have hy:yielded ops a.tmps g=yielded ops b.tmps g:=by
    unfold yielded
    cases ht:(ops[g]?).bind (·.dst) with
    | none=>rfl
    | some t =>
      have:=h t (List.mem_append_right _ (by rw[hg];simp[ht]))
      simp only[Option.bind_some,this]
   simp only[hy]
theorem Gives.same {o:Oper} (hs:∀ cs b,o.op≠.select cs b) {a b:Act} {v:Value} (h:∀ t∈o.looksAt ops,a.tmps[t]?=b.tmps[t]?) (hg:Gives P ops S o a v):Gives P ops S o b v:=by
 obtain⟨h1,h2⟩:=AhS hs h
 cases hg with
 | dead h hv=>exact .dead (by rw[<-h2];exact h) hv
 | val h hv=>exact .val (by rw[<-h2];exact h) (by rw[<-h1];exact hv)
 | call h f args hr hv=>exact .call (by rw[<-h2];exact h) f args (by rw[<-h1];exact hr) hv
theorem Gives.op {o:Oper} {a:Act} {v:Value} {i:Nat} (ho:ops[i]?=some o) (hg:Gives P ops S o a v) {Q:Exit->Act->World->Prop} {K:Act->World->Prop} {w:World} (hS:S w) (h:∀ w',S w'->K (a.put o.dst v) w'):wpOp P ops Q i K a w:=by
 unfold wpOp
 simp only[ho]
 cases hg with
 | dead hw hv =>
   subst hv
   simp only[hw,Bool.false_eq_true,if_false]
   exact h w hS
 | val hw hv =>
   simp only[hw,if_true,Oper.wp,hv w hS,Oper.upon]
   exact .inl (h w hS)
 | call hw f args hr hv =>
   simp only[hw,if_true,Oper.wp,hr w hS,Oper.upon]
   refine .inl ((hv w hS).mono ?_)
   rintro e w' ⟨rfl,hS'⟩
   exact h w' hS'
def flat (ops:Array Oper):Bool:=Region.noSelect ops && (List.range ops.size).all λj=>match ops[j]? with
 | none=>true
 | some oj=>oj.after.all (λe=>!Region.binds .any e || decide (e.on<j)) && (List.range j).all λi=>oj.after.any (λe=>Region.binds .any e && e.on == i) || match ops[i]? with
   | none=>true
   | some oi=>oi.apart ops oj
theorem sG (hf:flat ops=true) {j:Nat} {oj:Oper} (hj:ops[j]?=some oj):∀ e∈oj.after,Region.binds .any e=true->e.on<j:=λe he hb=>by
 have h1:=List.all_eq_true.1 (Bool.and_eq_true_iff.1 hf).2 j (List.mem_range.2 (ArL hj).1)
 rw[hj,AsF] at h1
 have h2:=Array.all_eq_true'.1 h1.1 e he
 rw[hb] at h2
 simpa using h2
theorem lK (hf:flat ops=true) {i j:Nat} {oi oj:Oper} (hi:ops[i]?=some oi) (hj:ops[j]?=some oj) (hij:i<j):(∃ e∈oj.after,Region.binds .any e=true/\e.on=i)∨oi.apart ops oj=true:=by
 have h1:=List.all_eq_true.1 (Bool.and_eq_true_iff.1 hf).2 j (List.mem_range.2 (ArL hj).1)
 rw[hj,AsF] at h1
 have h2:=List.all_eq_true.1 h1.2 i (List.mem_range.2 hij)
 rw[hi,Bool.or_eq_true] at h2
 rcases h2 with h2|h2
 ·obtain⟨e,he,h3⟩:=Array.any_eq_true'.1 h2
  rw[AsF,beq_iff_eq] at h3
  exact .inl ⟨e,he,h3⟩
 exact .inr h2
theorem iO (ops:Array Oper) (V:Nat->Value) (a:Act) (i:Nat):∀ n,i<=n->aP ops V (λk=>decide (k<i)) a n=aP ops V (λ_=>true) a i
 | 0,h=>by
   obtain rfl:i=0:=Nat.le_zero.1 h
   rfl
 | n + 1,h=>by
   rcases Nat.lt_or_ge n i with h1|h1
   ·obtain rfl:i=n+1:=by omega
    exact cI ops V a (n+1) λk hk=>decide_eq_true hk
   show (if decide (n<i)=true then _ else _)=_
   rw[decide_eq_false (Nat.not_lt.2 h1),ArY (by decide)]
   exact iO ops V a i n h1
theorem mH (ops:Array Oper) (V:Nat->Value) {l:Nat->Bool} (a:Act) {i:Nat} (hl:l i=false):∀ n,i<n->(∀ k,i<k->k<n->l k=true->∀ d,(ops[i]?).bind (·.dst)=some d->(ops[k]?).bind (·.dst)≠some d)->(aP ops V l a n).put ((ops[i]?).bind (·.dst)) (V i)=aP ops V (λk=>l k || k == i) a n
 | 0,h,_=>absurd h (Nat.not_lt_zero i)
 | n + 1,h,hk=>by
   rcases Nat.lt_or_ge i n with h1|h1
   ·have ih:=mH ops V a hl n h1 λk h2 h3=>hk k h2 (Nat.lt_succ_of_lt h3)
    have hn:(n == i)=false:=ArU.2 (by omega)
    unfold aP
    rw[hn,Bool.or_false,<-ih]
    split
    ·rename_i hln
     exact Act.put_comm _ _ _ λd hd hd'=>hk n h1 (Nat.lt_succ_self n) hln d hd' hd
    rfl
   obtain rfl:n=i:=by omega
   have e:aP ops V (λk=>l k || k == n) a n=aP ops V l a n:=cI ops V a n λk hk=>by
    rw[ArU.2 (by omega),Bool.or_false]
   unfold aP
   rw[hl,ArY (by decide),e,ArZ (by simp)]
def still (l:Nat->Bool):Nat->Nat
 | 0=>0
 | n+1=>still l n+if l n=true then 0 else 1
theorem pQ {l:Nat->Bool}:∀ n,still l n=0->∀ k,k<n->l k=true
 | 0,_,k,hk=>absurd hk (Nat.not_lt_zero k)
 | n + 1,h,k,hk=>by
   unfold still at h
   have h1:l n=true:=by
    by_cases hl:l n=true
    ·exact hl
    rw[ArY hl] at h;omega
   rcases Nat.lt_or_ge k n with h2|h2
   ·exact pQ n (by omega) k h2
   obtain rfl:k=n:=by omega
   exact h1
theorem sH {l:Nat->Bool} {i:Nat} (hl:l i=false):∀ n,i<n->still (λk=>l k || k == i) n+1=still l n
 | 0,h=>absurd h (Nat.not_lt_zero i)
 | n + 1,h=>by
   unfold still
   rcases Nat.lt_or_ge i n with h1|h1
   ·have:=sH hl n h1
    rw[ArU.2 (show n≠i by omega),Bool.or_false]
    omega
   obtain rfl:n=i:=by omega
   have e:∀ m,m<=n->still (λk=>l k || k == n) m=still l m:=λm=>by
    induction m with
    | zero=>intro _;rfl
    | succ m ih =>
      intro hm
      unfold still
      rw[ih (by omega),ArU.2 (show m≠n by omega),Bool.or_false]
   rw[e n (ArR _),hl]
   simp
theorem yQ (l:Nat->Bool):∀ n,still l n<=n
 | 0=>ArR _
 | n+1=>by
   have:=yQ l n
   unfold still
   split <;> omega
theorem AcK (hf:flat ops=true) {Q:Exit->Act->World->Prop} (V:Nat->Value) (a:Act) (hV:∀ i o,ops[i]?=some o->Gives P ops S o (aP ops V (λ_=>true) a i) (V i))
 (hQ:∀ w,S w->Q .normal (aP ops V (λ_=>true) a ops.size) w) :
 ∀ n (l:Array Bool) w,l.size=ops.size->still (λk=>l.getD k false) ops.size<=n->(∀ k o,ops[k]?=some o->l.getD k false=true->∀ e∈o.after,Region.binds .any e=true->l.getD e.on false=true)->S w ->
   wpAny P .any ops Q n l (aP ops V (λk=>l.getD k false) a ops.size) w:=by
 have fin:∀ (l:Array Bool) w,(∀ k,k<ops.size->l.getD k false=true)->S w->Q .normal (aP ops V (λk=>l.getD k false) a ops.size) w:=λl w h hS=>by
  rw[cI ops V (l':=λ_=>true) a ops.size h]
  exact hQ w hS
 have unl:∀ {l:Array Bool} {k:Nat},l.size=ops.size->k<ops.size->l.getD k false=false->l.getD k true=false:=λ{l k} hs hk h=>by
  have hlt:k<l.size:=by omega
  simp only[Array.getD,hlt,dif_pos] at h ⊢
  exact h
 have all:∀ (l:Array Bool),l.size=ops.size->Region.ready .any ops l=[]->∀ k,k<ops.size->l.getD k false=true:=λl hs hr k=>by
  induction k using Nat.strongRecOn with
  | ind k ih =>
    intro hk
    refine Decidable.byContradiction λhne=>?_
    have ho:=Array.getElem?_eq_getElem hk
    have:k∈Region.ready .any ops l:=mem_ready.2 ⟨unl hs hk (by simpa using hne),_,ho,λe he hb=>ih e.on (sG hf ho e he hb) (by have:=sG hf ho e he hb;omega)⟩
    rw[hr] at this
    cases this
 intro n
 induction n with
 | zero =>
   intro l w hs hn hd hS
   have h:=pQ ops.size (Nat.le_zero.1 hn)
   refine⟨?_,fin l w h hS⟩
   refine List.eq_nil_iff_forall_not_mem.2 λk hk=>?_
   obtain⟨h1,o,ho,-⟩:=mem_ready.1 hk
   have h2:=h k (ArL ho).1
   have hlt:k<l.size:=by have:=(ArL ho).1;omega
   simp only[Array.getD,hlt,dif_pos] at h1 h2
   exact absurd (h1.symm.trans h2) (by decide)
 | succ n ih =>
   intro l w hs hn hd hS
   refine⟨λhr=>fin l w (all l hs hr) hS,λi hi=>?_⟩
   obtain⟨h1,o,ho,hdep⟩:=mem_ready.1 hi
   have hin:=(ArL ho).1
   have hil:i<l.size:=by omega
   have hi0:l.getD i false=false:=by
    simp only[Array.getD,hil,dif_pos] at h1 ⊢
    exact h1
   have hset:∀ k,(l.setIfInBounds i true).getD k false=(l.getD k false || k == i):=λk=>by
    rw[Array.getD_eq_getD_getElem?,Array.getD_eq_getD_getElem?]
    by_cases hki:k=i
    ·subst hki
     rw[Array.getElem?_setIfInBounds_self]
     simp[hil]
    rw[Array.getElem?_setIfInBounds_ne (Ne.symm hki),ArU.2 hki,Bool.or_false]
   have hsel:=Region.noSelect_spec (Bool.and_eq_true_iff.1 hf).1 i o
   have hg:=hV i o ho
   rw[<-iO ops V a i ops.size (Nat.le_of_lt hin)] at hg
   have hg2:Gives P ops S o (aP ops V (λk=>l.getD k false) a ops.size) (V i):=hg.same (λcs b=>hsel cs b ho) λt ht=>kJ ops V a ops.size λk hk hne hdk=>by
    have hok:=Array.getElem?_eq_getElem hk
    rw[hok] at hdk
    simp only[Option.bind_some] at hdk
    rcases Nat.lt_trichotomy k i with hki|hki|hki
    ·rcases lK hf hok ho hki with ⟨e,he,hb,rfl⟩|hap
     ·have h2:=hdep e he hb
      simp only[h2,decide_eq_true hki] at hne
      exact hne rfl
     exact(Oper.apart_spec hap).1 t hdk ht
    ·subst hki
     simp only[hi0,decide_eq_false (Nat.lt_irrefl k)] at hne
     exact hne rfl
    rcases lK hf ho hok hki with ⟨e,he,hb,rfl⟩|hap
    ·have hlk:l.getD k false=true:=by
      cases hx:l.getD k false with
      | true=>rfl
      | false=>simp only[hx,decide_eq_false (Nat.not_lt.2 (Nat.le_of_lt hki))] at hne;exact absurd rfl hne
     have h2:=hd k _ hok hlk e he hb
     rw[hi0] at h2
     cases h2
    exact(Oper.apart_spec hap).2.2 t hdk ht
   refine hg2.op ho hS λw' hS'=>?_
   have hput:=mH ops V (l:=λk=>l.getD k false) a hi0 ops.size hin λk hik hk hlk d hdi hdk=>by
    have hok:=Array.getElem?_eq_getElem hk
    rw[ho] at hdi
    rw[hok] at hdk
    simp only[Option.bind_some] at hdi hdk
    rcases lK hf ho hok hik with ⟨e,he,hb,rfl⟩|hap
    ·have h2:=hd k _ hok hlk e he hb
     rw[hi0] at h2
     cases h2
    exact(Oper.apart_spec hap).2.1 d hdi hdk
   rw[ho] at hput
   simp only[Option.bind_some] at hput
   rw[hput,<-cI ops V (l:=λk=>(l.setIfInBounds i true).getD k false) a ops.size λk _=>hset k]
   refine ih (l.setIfInBounds i true) w' (by simpa using hs) ?_ ?_ hS'
   ·have h2:=sH (l:=λk=>l.getD k false) hi0 ops.size hin
    have h3:still (λk=>(l.setIfInBounds i true).getD k false) ops.size=still (λk=>l.getD k false || k == i) ops.size:=congrArg (still · ops.size) (funext hset)
    omega
   intro k ok hok hlk e he hb
   rw[hset] at hlk ⊢
   rw[Bool.or_eq_true] at hlk ⊢
   rcases hlk with hlk|hlk
   ·exact .inl (hd k ok hok hlk e he hb)
   obtain rfl:k=i:=by simpa using hlk
   rw[ho] at hok
   cases hok
   exact .inl (hdep e he hb)
def iP (os:List Oper) (V:Nat->Value) (a:Act):Nat->Act
 | 0=>a
 | j+1=>(iP os V a j).put ((os[j]?).bind (·.dst)) (V j)
theorem jG (o:Oper) (os:List Oper) (v:Value) (V:Nat->Value) (a:Act):∀ j,iP (o :: os) (λk=>match k with|0=>v|k+1=>V k) a (j+1)=iP os V (a.put o.dst v) j
 | 0=>rfl
 | j+1=>by
   show (iP (o :: os) _ a (j+1)).put _ _=(iP os V (a.put o.dst v) j).put _ _
   rw[jG o os v V a j]
   rfl
theorem InText.values {K:Act->Prop}:∀ (os:List Oper) (a:Act),InText P ops S K os a->∃ V:Nat->Value,(∀ j o,os[j]?=some o->Gives P ops S o (iP os V a j) (V j))/\K (iP os V a os.length)
 | [],a,h=>⟨λ_=>undef,λj o h=>(by cases h),h⟩
 | o :: os,a,⟨v,h1,h2⟩=>by
   obtain⟨V,h3,h4⟩:=InText.values os (a.put o.dst v) h2
   refine⟨λk=>match k with|0=>v|k+1=>V k,λj o' ho=>?_,?_⟩
   ·cases j with
    | zero =>
      cases ho
      exact h1
    | succ j =>
      rw[jG]
      exact h3 j o' ho
   show K (iP (o :: os) _ a (os.length+1))
   rw[jG]
   exact h4
theorem gO (V:Nat->Value) (a:Act):∀ j,aP ops V (λ_=>true) a j=iP ops.toList V a j
 | 0=>rfl
 | j+1=>by
   show (if true=true then _ else _)=_
   rw[ArZ rfl,gO V a j]
   show _=(iP ops.toList V a j).put ((ops.toList[j]?).bind (·.dst)) (V j)
   rw[Array.getElem?_toList]
theorem aS {Q:Exit->Act->World->Prop} {os:List Oper} {id:Nat} {a:Act} {w:World} (S:World->Prop) (hm:P.follows .mixedOrders=true) (hf:flat os.toArray=true) (hS:S w.drew) (h:InText P os.toArray S (λb=>∀ w',S w'->Q .normal b w') os a):(Code.region id os.toArray true).wp P Q a w:=by
 obtain⟨V,h1,h2⟩:=InText.values os a h
 refine wp_region_any hm ?_
 have h3:=AcK (ops:=os.toArray) hf (Q:=Q) V a (λi o ho=>by rw[gO];exact h1 i o (by simpa using ho)) (λw' hS'=>by rw[gO];exact h2 w' hS') os.toArray.size (Array.replicate os.toArray.size false) w.drew (by simp) (yQ _ _) (λk o hk hl=>by
  rw[Array.getD_eq_getD_getElem?,Array.getElem?_replicate] at hl
  split at hl <;> cases hl) hS
 have h4:aP os.toArray V (λk=>(Array.replicate os.toArray.size false).getD k false) a os.toArray.size=a:=by
  have : ∀ n,aP os.toArray V (λk=>(Array.replicate os.toArray.size false).getD k false) a n=a:=λn=>by
   induction n with
   | zero=>rfl
   | succ n ih =>
     unfold aP
     rw[ArY,ih]
     rw[Array.getD_eq_getD_getElem?,Array.getElem?_replicate]
     split <;> decide
  exact this _
 rw[h4] at h3
 exact h3
theorem InText.list {Q:Exit->Act->World->Prop}:∀ (os:List Oper) (a:Act),InText P ops S (λb=>∀ w',S w'->Q .normal b w') os a->∀ w,S w->wpList P ops Q os a w
 | [],_,h,w,hS=>h w hS
 | o :: os,a,⟨v,hg,hk⟩,w,hS=>by
   have next:∀ w',S w'->wpList P ops Q os (a.put o.dst v) w':=λw' hS'=>InText.list os _ hk w' hS'
   unfold wpList
   cases hg with
   | dead hw hv =>
     subst hv
     simp only[hw,Bool.false_eq_true,if_false]
     exact next w hS
   | val hw hv =>
     simp only[hw,if_true,Oper.wp,hv w hS,Oper.upon]
     exact .inl (next w hS)
   | call hw f args hr hv =>
     simp only[hw,if_true,Oper.wp,hr w hS,Oper.upon]
     refine .inl ((hv w hS).mono ?_)
     rintro e w' ⟨rfl,hS'⟩
     exact next w' hS'
theorem dO {Q:Exit->Act->World->Prop} {os:List Oper} {id:Nat} {a:Act} {w:World} (S:World->Prop) (hS:S w) (h:InText P os.toArray S (λb=>∀ w',S w'->Q .normal b w') os a):(Code.region id os.toArray false).wp P Q a w :=
 wp_region_lit (h.list os a w hS)
end
open Go.RowKit
theorem mI (m:TableM) (A:Option Addr) (c:Nat) (d:List Dm.Dem) (A':Option Addr) (c':Nat) (l:List Wk.Stp) (w:World) (h1:LBo.Row w m.A1 m.t.points) (h:aJ.Row w A d) (hl:d.length<=1000000) (h':aE.Row w A' l) (hl':l.length<=1000000) (hin:∀ x∈l,0<=x.s/\x.s<(m.t.points.length:Int)) :
 Calls Tryz.prog 95 #[tbV m,.slice A d.length c,.slice A' l.length c'] w (OneIs (.bool (Tb.asksOk m.t.points d l)) w):=by
 --[
 have XX:=(AtB w).alloc (ArR _) (tbO m)
 have X:=hid XX
 have HD:=hid (h.below rfl XX)
 have HR:=hid (h'.below rfl XX)
 have HP1:=hid (h1.below rfl XX)
 have RP:=hid (AsW w (tbO m))
 have HIN:=hid hin
 generalize hq:Tb.asksOk m.t.points d l=q
 have HQ:=hid (show (l.drop 0).all (Tb.askOk m.t.points d)=q from hq)
 clear h h1 h' hq XX hin
 go_enter Tryz.func95,Tryz.ntmps95
 go_upto_region 1 with fail
 generalize w.alloc (tbO m)=w1 at X HD HR HP1 RP ⊢
 generalize hg:w.heap.size=g at RP ⊢
 have gl:=(cA RP.out).2
 have KB:=hid (λW (hW:Below w1.heap.size w1 W)=>(cA ((hW.block _ gl).trans RP.out)).1.2.1)
 have B0:=hid (AtB w1)
 clear gl hg
 go_wp2_with fail
 go_loopw [8,11] (λ_ v w'=>∃ j:Nat,j<=l.length/\v=.int .i64 j/\(l.drop j).all (Tb.askOk m.t.points d)=q/\Below w1.heap.size w1 w') (λ_ v _=>l.length-(intOf v).toNat)
 case atStart=>exact⟨0,AsD _,rfl,HQ.out,B0.out⟩
 case round =>
  clear HQ
  obtain⟨j,hj,rfl,hp,hb⟩:=hrel
  have HB:=hid (X.out.trans (hb.mono X.out.size))
  have HB1:=hid hb
  by_cases hlt:j<l.length
  ·obtain⟨d1,j0,j1⟩:=ArK (show j<l.length by omega)
   obtain⟨hx0,hx1⟩:=HIN.out _ (List.getElem_mem hlt)
   rw[List.drop_eq_getElem_cons hlt,List.all_cons] at hp
   obtain⟨b,o,rfl,hbb,on⟩:=(HR.out.below rfl hb).at hlt
   generalize l[j]=x at hp on hx0 hx1
   obtain⟨xs,xf,xt⟩:=x
   obtain⟨c0,c1,c2⟩:=bL on
   rw[show j*aE.m=j*3 from rfl] at c0 c1 c2
   simp only at c0 c1 c2 hx0 hx1
   obtain⟨k,rfl⟩:∃ k:Nat,xs=(k:Int):=⟨xs.toNat,by omega⟩
   have hkp:k<m.t.points.length:=by omega
   have k0:(0:Int)<=(k:Int):=ArT k
   have k1:(k:Int)<(m.t.points.length:Int):=by omega
   have HK:=hid (show Tb.askOk m.t.points d ⟨(k:Int),xf,xt⟩=(!m.t.points.getD k false || (Dm.posOf d (k:Int) == max xf xt)) from by
    unfold Tb.askOk
    rw[AsP])
   have HP:=hid hp
   have Y0:=(AtB wr).alloc (ArR _) (jB ⟨(k:Int),xf,xt⟩)
   have RY:=hid (AsW wr (jB ⟨(k:Int),xf,xt⟩))
   have Y:=hid (hb.trans (Y0.mono hb.size))
   clear hb hp on hbb Y0
   go_upto_region 4 with fail
   generalize wr.alloc (jB ⟨(k:Int),xf,xt⟩)=w3 at RY Y ⊢
   generalize wr.heap.size=gy at RY ⊢
   have gly:=(ArL RY.out).1
   obtain⟨bp,op,hA1,hbp,cp⟩:=yI (HP1.out.below rfl Y.out) hkp
   have KS:=hid (λW (hW:Below w3.heap.size w3 W)=>show W.cell? ⟨g,1,none⟩=some (.slice (some ⟨bp,op,none⟩) m.t.points.length m.c1)/\W.cell? ⟨bp,op+k,none⟩=some (.bool (m.t.points.getD k false))/\W.cell? ⟨gy,0,none⟩=some (.int .i64 k)/\W.cell? ⟨gy,1,none⟩=some (.int .i64 xf)/\W.cell? ⟨gy,2,none⟩=some (.int .i64 xt) from
    ⟨by have:=KB.out _ (Y.out.trans (hW.mono Y.out.size));rw[hA1] at this;exact this,(hW.cell (p:=⟨bp,op+k,none⟩) hbp).trans cp,AsY _ gy 0 _ _ _ ((hW.block _ gly).trans RY.out),AsY _ gy 1 _ _ _ ((hW.block _ gly).trans RY.out),AsY _ gy 2 _ _ _ ((hW.block _ gly).trans RY.out)⟩)
   have CP:=hid (λW (hW:Below w3.heap.size w3 W)=>(cU A c d (k:Int) W ((HD.out.below rfl Y.out).below rfl hW) hl).mono λe w' h=>(⟨h.1,hW.trans (h.2.mono hW.size)⟩:e=.returned (.int .i64 (Dm.posOf d (k:Int)))/\Below w3.heap.size w3 w'))
   generalize Dm.posOf d (k:Int)=ps at HK CP
   generalize m.t.points.getD k false=pt at KS HK
   have HB3:=hid Y.out
   clear hA1 hbp cp gly
   cases pt with
   | false =>
     have HT:=hid (show (l.drop (j+1)).all (Tb.askOk m.t.points d)=q from by have:=HP.out;rw[HK.out] at this;exact this)
     clear HP HK
     refine aS (λW=>Below w3.heap.size w3 W) (by kernel_rfl) (by kernel_rfl) (AtB w3).drew ?_
     repeat ((first
      | refine InText.dead ?_
      | (refine InText.val (v:=?_) ?_ ?_;rotate_left;(focus (intro W hW;obtain⟨s0,s1,s2,s3,s4⟩:=KS.out W hW;go_simp;(try with_reducible rfl);done)))
      | (refine InText.call (v:=?_) (f:=?_) (args:=?_) ?_ ?_ ?_;rotate_left 3;(focus (intro W hW;go_simp;constructor;with_reducible rfl;with_reducible rfl));(focus exact CP.out)));(try simp only[Act.put,ArO,ArP,ArQ]))
     refine InText.end_ λw4 hb4=>?_
     have HB4:=hid (HB3.out.trans (hb4.mono HB3.out.size))
     clear hb4
     go_wp2
     go_roundw
     case rel=>exact⟨j+1,by omega,by go_num,HT.out,HB4.out⟩
     case measure=>simp[intOf];omega
   | true =>
     obtain⟨z,hz⟩:∃ z,(ps != max xf xt)=z:=⟨_,rfl⟩
     have HK2:=hid (show Tb.askOk m.t.points d ⟨(k:Int),xf,xt⟩ = !z from by rw[HK.out,<-hz];unfold bne;rw[Bool.not_not];rfl)
     refine aS (λW=>Below w3.heap.size w3 W) (by kernel_rfl) (by kernel_rfl) (AtB w3).drew ?_
     repeat ((first
      | refine InText.dead ?_
      | (refine InText.val (v:=?_) ?_ ?_;rotate_left;(focus (intro W hW;obtain⟨s0,s1,s2,s3,s4⟩:=KS.out W hW;go_simp;(try with_reducible rfl);done)))
      | (refine InText.call (v:=?_) (f:=?_) (args:=?_) ?_ ?_ ?_;rotate_left 3;(focus (intro W hW;go_simp;constructor;with_reducible rfl;with_reducible rfl));(focus exact CP.out)));(try simp only[Act.put,ArO,ArP,ArQ]))
     refine InText.end_ λw4 hb4=>?_
     have HB4:=hid (HB3.out.trans (hb4.mono HB3.out.size))
     have HF4:=hid (X.out.trans (HB4.out.mono X.out.size))
     clear hb4
     cases z with
     | false =>
       have HT:=hid (show (l.drop (j+1)).all (Tb.askOk m.t.points d)=q from by have:=HP.out;rw[HK2.out] at this;exact this)
       clear HP HK HK2
       go_wp2
       go_roundw
       case rel=>exact⟨j+1,by omega,by go_num,HT.out,HB4.out⟩
       case measure=>simp[intOf];omega
     | true =>
       have HF:=hid (show false=q from by have:=HP.out;rw[HK2.out] at this;exact this)
       clear HP HK HK2
       go_wp2
       go_ret
       exact⟨by rw[<-HF.out] <;> rfl,HF4.out⟩
  obtain rfl:j=l.length:=by omega
  have d1:decide ((l.length:Int)<(l.length:Int))=false:=aB (by omega)
  have HF:=hid (show true=q from by rw[List.drop_length] at hp;exact hp)
  clear hp hb
  go_wp2
  go_ret
  exact⟨by rw[<-HF.out] <;> rfl,HB.out⟩
 --]
theorem vA (m:TableM) (A:Option Addr) (c:Nat) (l:List Dm.Dem) (w:World) (h1:LBo.Row w m.A1 m.t.points) (hpn:m.t.points.length=m.t.names.length) (h:aJ.Row w A l) (hl:l.length<=1000000) :
 Calls Tryz.prog 94 #[tbV m,.slice A l.length c] w (OneIs (.bool (Tb.demandsOk m.t.points l)) w):=by
 --[
 have XX:=(AtB w).alloc (ArR _) (tbO m)
 have X:=hid XX
 have HD:=hid (h.below rfl XX)
 have HP1:=hid (h1.below rfl XX)
 have RP:=hid (AsW w (tbO m))
 rw[<-Tb.asked_eq]
 generalize hq:(l.all (Tb.askedOk m.t.points m.t.points.length) && Tb.rises (l.map Dm.Dem.pt))=q
 have HQ:=hid (show ((l.drop 0).all (Tb.askedOk m.t.points m.t.points.length) && Tb.rises (l.map Dm.Dem.pt))=q from hq)
 have HPN:=hid hpn
 clear h h1 hq XX hpn
 go_enter Tryz.func94,Tryz.ntmps94
 go_upto_region 1 with fail
 generalize w.alloc (tbO m)=w1 at X HD HP1 RP ⊢
 generalize hg:w.heap.size=g at RP ⊢
 have gl:=(cA RP.out).2
 have KB:=hid (λW (hW:Below w1.heap.size w1 W)=>AsG (cA ((hW.block _ gl).trans RP.out)).1.1 (cA ((hW.block _ gl).trans RP.out)).1.2.1)
 have B0:=hid (AtB w1)
 have O0:=hid (World.ownsRow_nil w1 w1.heap.size 3 aF.m)
 clear gl hg
 go_wp2_with fail
 go_loopw [5,7,10] (λv5 _ v w'=>∃ (j:Nat) (Ap:Option Addr) (cp:Nat),j<=l.length/\v=.int .i64 j/\v5=.slice Ap j cp/\w'.ownsRow w1.heap.size 3 aF.m (.slice Ap j cp) j (aF.all ((l.take j).map Dm.Dem.pt))/\((l.drop j).all (Tb.askedOk m.t.points m.t.points.length) && Tb.rises (l.map Dm.Dem.pt))=q/\Below w1.heap.size w1 w') (λ_ _ v _=>l.length-(intOf v).toNat)
 case atStart=>exact⟨0,none,0,AsD _,rfl,rfl,O0.out,HQ.out,B0.out⟩
 case round =>
  clear HQ O0
  obtain⟨j,Ap,cp,hj,rfl,rfl,ho,hp,hb⟩:=hrel
  have HB:=hid (X.out.trans (hb.mono X.out.size))
  have HB1:=hid hb
  by_cases hlt:j<l.length
  ·have d1 : decide ((j:Int)<(l.length:Int))=true:=aC (by omega)
   have j0:(0:Int)<=(j:Int):=ArT j
   have j1:(j:Int)<(l.length:Int):=by omega
   have HTK:=hid (show (l.take (j+1)).map Dm.Dem.pt=(l.take j).map Dm.Dem.pt++[l[j].pt] from by
    rw[AsK hlt,List.map_append];rfl)
   rw[List.drop_eq_getElem_cons hlt,List.all_cons] at hp
   obtain⟨b,o,rfl,hbb,on⟩:=(HD.out.below rfl hb).at hlt
   generalize l[j]=x at hp on HTK
   obtain⟨xp,xq⟩:=x
   obtain⟨c0,c1⟩:=eV on
   rw[show j*aJ.m=j*2 from rfl] at c0 c1
   simp only at c0 c1 HTK
   have HP:=hid hp
   have HK:=hid (show Tb.askedOk m.t.points m.t.points.length ⟨xp,xq⟩=(Tb.isIn xp m.t.names.length && m.t.points.getD xp.toNat false && ((xq == 1) || (xq == 2))) from by rw[<-HPN.out];rfl)
   have Y0:=(AtB wr).alloc (ArR _) (.cells #[.int .i64 xp,.int .i64 xq] 138)
   have RY:=hid (AsW wr (.cells #[.int .i64 xp,.int .i64 xq] 138))
   have Y:=hid (hb.trans (Y0.mono hb.size))
   have HO:=hid (aA ho Y0)
   clear hb hp on hbb Y0 ho
   go_upto_region 5 with fail
   generalize wr.alloc (.cells #[.int .i64 xp,.int .i64 xq] 138)=w3 at RY Y HO ⊢
   generalize wr.heap.size=gy at RY ⊢
   have FY:=hid (X.out.trans (Y.out.mono X.out.size))
   have gly:=(ArL RY.out).1
   have y0:=AsY _ gy 0 _ _ _ RY.out
   have y1:=AsY _ gy 1 _ _ _ RY.out
   obtain⟨kb0,kb1⟩:=KB.out _ Y.out
   clear c0 c1
   have CI:=hid (yP xp m.t.names.length w3)
   cases hz:Tb.isIn xp m.t.names.length with
   | false =>
     rw[hz] at CI HK
     have HF:=hid (show false=q from by have:=HP.out;rw[HK.out] at this;exact this)
     clear HP HK hz
     go_wp2_with fail
     refine CI.out.mono ?_;rintro e w' ⟨rfl,rfl⟩
     go_wp2
     go_ret
     exact⟨by rw[<-HF.out] <;> rfl,FY.out⟩
   | true =>
     rw[hz] at CI HK
     obtain⟨h0,h1⟩:=Tb.isIn_iff.1 hz
     obtain⟨k,rfl⟩:∃ k:Nat,xp=(k:Int):=⟨xp.toNat,by omega⟩
     have hkp:k<m.t.points.length:=by have:=HPN.out;omega
     have k0:(0:Int)<=(k:Int):=ArT k
     have k1:(k:Int)<(m.t.points.length:Int):=by omega
     obtain⟨bp,op,hA1,hbp,cp1⟩:=yI (HP1.out.below rfl Y.out) hkp
     rw[hA1] at kb1
     rw[AsP] at HK
     generalize m.t.points.getD k false=pt at cp1 HK
     clear hz h0 h1 hA1
     cases pt with
     | false =>
       have HF:=hid (show false=q from by have:=HP.out;rw[HK.out] at this;exact this)
       clear HP HK
       go_wp2_with fail
       refine CI.out.mono ?_;rintro e w' ⟨rfl,rfl⟩
       go_wp2
       go_ret
       exact⟨by rw[<-HF.out] <;> rfl,FY.out⟩
     | true =>
       by_cases hq12:xq=1∨xq=2
       ·have HT:=hid (show ((l.drop (j+1)).all (Tb.askedOk m.t.points m.t.points.length) && Tb.rises (l.map Dm.Dem.pt))=q from by
         have:=HP.out
         rw[HK.out] at this
         rcases hq12 with rfl|rfl <;> exact this)
        have E:((xq != 1)=false)∨((xq != 1)=true/\(xq != 2)=false):=by
         rcases hq12 with rfl|rfl
         ·exact .inl rfl
         exact .inr ⟨rfl,rfl⟩
        have HLT:=hid (show ((l.take j).map Dm.Dem.pt).length=j from by rw[AsH,AsU];omega)
        obtain⟨i0',hi,hz0,hz1,hz2⟩:=info_parts fT
        have RN:=hid (show aF.Row (w3.alloc (.cells #[.int .i64 (k:Int)] 3)) (some ⟨w3.heap.size,0,none⟩) [(k:Int)] from Lies.Row.fresh (E:=aF) w3 [(k:Int)] 3)
        have XN:=hid ((AtB w3).alloc (ArR _) (.cells #[.int .i64 (k:Int)] 3))
        have HO2:=hid (aA HO.out XN.out)
        have B4:=hid (Y.out.trans (XN.out.mono Y.out.size))
        have hsz4:=B4.out.size
        clear hq12 HP HK
        generalize (l.take j).map Dm.Dem.pt=Ps at HO2 HTK HLT
        rcases E with E|⟨E,E'⟩
        ·go_wp2_with fail
         refine CI.out.mono ?_;rintro e w' ⟨rfl,rfl⟩
         go_wp2_with (at_builtin;refine aG aF _ rfl (.tmp 40) (.tmp 43) 90 rfl w1.heap.size 3 i0' _ 8 Tryz.underlying90 hi hz0 hz1 hz2 rfl (.slice Ap j cp) j (aF.all Ps) rfl HO2.out (some ⟨w'.heap.size,0,none⟩) 1 1 [(k:Int)] rfl (by decide) rfl RN.out (by omega) (by omega) hsz4 ?_;intro g1 cap1 w7 ho hg hgr;have HO7:=hid ho;have B7:=hid (B4.out.grown hg hsz4 λk hk=>(HO2.out.lt k hk).1);clear ho hg hgr)
         go_roundw
         case rel=>exact⟨j+1,_,_,by omega,by go_num,rfl,by rw[HTK.out,aF.all_append];exact HO7.out,HT.out,B7.out⟩
         case measure=>simp[intOf];omega
        go_wp2_with fail
        refine CI.out.mono ?_;rintro e w' ⟨rfl,rfl⟩
        go_wp2_with (at_builtin;refine aG aF _ rfl (.tmp 40) (.tmp 43) 90 rfl w1.heap.size 3 i0' _ 8 Tryz.underlying90 hi hz0 hz1 hz2 rfl (.slice Ap j cp) j (aF.all Ps) rfl HO2.out (some ⟨w'.heap.size,0,none⟩) 1 1 [(k:Int)] rfl (by decide) rfl RN.out (by omega) (by omega) hsz4 ?_;intro g1 cap1 w7 ho hg hgr;have HO7:=hid ho;have B7:=hid (B4.out.grown hg hsz4 λk hk=>(HO2.out.lt k hk).1);clear ho hg hgr)
        go_roundw
        case rel=>exact⟨j+1,_,_,by omega,by go_num,rfl,by rw[HTK.out,aF.all_append];exact HO7.out,HT.out,B7.out⟩
        case measure=>simp[intOf];omega
       have E:(xq != 1)=true:=by rw[AsV];omega
       have E':(xq != 2)=true:=by rw[AsV];omega
       have HF:=hid (show false=q from by
        have:=HP.out
        rw[HK.out,ArU.2 (show xq≠1 by omega),ArU.2 (show xq≠2 by omega)] at this
        exact this)
       clear hq12 HP HK
       go_wp2_with fail
       refine CI.out.mono ?_;rintro e w' ⟨rfl,rfl⟩
       go_wp2
       go_ret
       exact⟨by rw[<-HF.out] <;> rfl,FY.out⟩
  obtain rfl:j=l.length:=by omega
  have d1:decide ((l.length:Int)<(l.length:Int))=false:=aB (by omega)
  have HF:=hid (show Tb.rises (l.map Dm.Dem.pt)=q from by rw[List.drop_length] at hp;exact hp)
  rw[List.take_length] at ho
  obtain⟨-,A3,c3,e,-,hr⟩:=Lies.Row.of_own ho
  cases e
  have CR:=hid (kH Ap cp (l.map Dm.Dem.pt) wr hr (by rw[AsH];exact hl))
  rw[HF.out,AsH] at CR
  clear hp hb ho hr
  go_wp2_with fail
  refine CR.out.mono ?_;rintro e w' ⟨rfl,hb'⟩
  have HB2:=hid (HB.out.trans (hb'.mono HB.out.size))
  clear hb'
  go_wp2
  go_ret
  exact⟨rfl,HB2.out⟩
 --]
end Go.Proofs.YtjofpclmbjpgjaaGreat
