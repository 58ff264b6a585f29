/- Lemmas. -/
import Derived.Test.YtncphjodaklleaaGreatMh26
import Derived.Test.YtncphjodaklleaaGreatMh27
set_option maxHeartbeats 16000000
set_option maxRecDepth 100000
namespace Go.Proofs.YtncphjodaklleaaGreat
open Lib (hid)
open Go.RowKit
theorem kK (A:Option Addr) (c:Nat) (l:List Int) (w:World) (h:aF.Row w A l) (hl:l.length<=1000000) :
 Calls Tryz.prog 139 #[.slice A l.length c] w (OneIs (.bool (Tb.rises l)) w):=by
 --[
 have B0:=hid (AuN w)
 have HR:=hid h
 generalize hq:Tb.rises l=q
 have HQ:=hid (show Tb.ups (λi=>decide (l.getD (i-1) 0<l.getD i 0)) 1 l.length=q from hq)
 clear h hq
 go_enter Tryz.func139,Tryz.ntmps139
 go_wp2_with fail
 go_loopw [3] (λv w'=>∃ j:Nat,j<=l.length/\v=.int .i64 ((j:Int)+1)/\Tb.ups (λi=>decide (l.getD (i-1) 0<l.getD i 0)) (j+1) l.length=q/\Below w.heap.size w w') (λv _=>l.length+1-(intOf v).toNat)
 case atStart=>exact ⟨0,AsF _,rfl,HQ.out,B0.out⟩
 case round =>
  clear HQ
  obtain ⟨i,hj,rfl,hp,hb⟩:=hrel
  have HB:=hid hb
  have HP:=hid hp
  clear hp
  obtain ⟨j,hij⟩:∃ j,j=i+1:=⟨_,rfl⟩
  have hji:(i:Int)+1=(j:Int):=by omega
  rw [hji]
  rw [<-hij] at HP
  by_cases hlt:j<l.length
  ·have hx:=ArP hlt
   have hy:=ArP (show i<l.length by omega)
   have d1:decide ((j:Int)<(l.length:Int))=true:=aC (by omega)
   have j0:(0:Int)<=(j:Int):=ArV j
   have j1:(j:Int)<(l.length:Int):=by omega
   have e1:(j:Int)-1=(i:Int):=by omega
   have w1:IntKind.i64.wrap ((j:Int)-1)=(i:Int):=by rw[IntWalk.i64_in _ (by omega)];omega
   have w2:IntKind.i64.wrap (i:Int)=(i:Int):=IntWalk.i64_in _ (by omega)
   have i0:(0:Int)<=(i:Int):=ArV i
   have i1:(i:Int)<(l.length:Int):=by omega
   have HP2:=hid (show (decide (l.getD i 0<l.getD j 0) && Tb.ups (λi=>decide (l.getD (i-1) 0<l.getD i 0)) (j+1) l.length)=q from by
    have:=HP.out
    rw [Tb.ups_step _ hlt,show j-1=i by omega] at this
    exact this)
   obtain ⟨b,o,rfl,hbb,on,on'⟩:=(HR.out.below rfl hb).two hx hy
   rw [Tb.getD_at hx,Tb.getD_at hy] at HP2
   generalize l[j]=x at hx on HP2
   generalize l[i]=y at hy on' HP2
   have c0:=eU on
   have c1:=eU on'
   rw [show j*aF.m=j from Nat.mul_one _] at c0
   rw [show i*aF.m=i from Nat.mul_one _] at c1
   clear hb hx hy on on' HP hij hlt hji
   by_cases h2:y<x
   ·have D3:decide (x<=y)=false:=aB (by omega)
    have HT:=hid (show Tb.ups (λi=>decide (l.getD (i-1) 0<l.getD i 0)) (j+1) l.length=q from by have:=HP2.out;rw[decide_eq_true h2,Bool.true_and] at this;exact this)
    clear h2 HP2
    go_upto_region 4 with fail
    go_quiet (fail)
    go_wp2
    go_roundw
    case rel=>exact ⟨j,by omega,by first|rfl|go_num,HT.out,aI HB.out _⟩
    case measure=>simp [intOf];omega
   have D3:decide (x<=y)=true:=aC (by omega)
   have HF:=hid (show false=q from by have:=HP2.out;rw[decide_eq_false h2,Bool.false_and] at this;exact this)
   clear h2 HP2
   go_upto_region 4 with fail
   go_quiet (fail)
   go_wp2
   go_ret
   exact ⟨by rw[<-HF.out] <;> rfl,aI HB.out _⟩
  have d1:decide ((j:Int)<(l.length:Int))=false:=aB (by omega)
  have HF:=hid (show true=q from by have:=HP.out;rw[Tb.ups_over _ (by omega)] at this;exact this)
  clear hb HP hij hji
  go_wp2
  go_ret
  exact ⟨by rw[<-HF.out] <;> rfl,HB.out⟩
 --]
theorem qL (A:Option Addr) (c:Nat) (l:List Pl.Nm) (w:World) (h:LTx.Row w A l) (hl:l.length<=1000000) :
 Calls Tryz.prog 51 #[.slice A l.length c] w (OneIs (.bool (Tb.risesN l)) w):=by
 --[
 have B0:=hid (AuN w)
 have HR:=hid h
 generalize hq:Tb.risesN l=q
 have HQ:=hid (show Tb.ups (λi=>decide (l.getD (i-1) []<l.getD i [])) 1 l.length=q from hq)
 clear h hq
 go_enter Tryz.func51,Tryz.ntmps51
 go_wp2_with fail
 go_loopw [3] (λv w'=>∃ j:Nat,j<=l.length/\v=.int .i64 ((j:Int)+1)/\Tb.ups (λi=>decide (l.getD (i-1) []<l.getD i [])) (j+1) l.length=q/\Below w.heap.size w w') (λv _=>l.length+1-(intOf v).toNat)
 case atStart=>exact ⟨0,AsF _,rfl,HQ.out,B0.out⟩
 case round =>
  clear HQ
  obtain ⟨i,hj,rfl,hp,hb⟩:=hrel
  have HB:=hid hb
  have HP:=hid hp
  clear hp
  obtain ⟨j,hij⟩:∃ j,j=i+1:=⟨_,rfl⟩
  have hji:(i:Int)+1=(j:Int):=by omega
  rw [hji]
  rw [<-hij] at HP
  by_cases hlt:j<l.length
  ·have hx:=ArP hlt
   have hy:=ArP (show i<l.length by omega)
   have d1:decide ((j:Int)<(l.length:Int))=true:=aC (by omega)
   have j0:(0:Int)<=(j:Int):=ArV j
   have j1:(j:Int)<(l.length:Int):=by omega
   have e1:(j:Int)-1=(i:Int):=by omega
   have w1:IntKind.i64.wrap ((j:Int)-1)=(i:Int):=by rw[IntWalk.i64_in _ (by omega)];omega
   have w2:IntKind.i64.wrap (i:Int)=(i:Int):=IntWalk.i64_in _ (by omega)
   have i0:(0:Int)<=(i:Int):=ArV i
   have i1:(i:Int)<(l.length:Int):=by omega
   have HP2:=hid (show (decide (l.getD i []<l.getD j []) && Tb.ups (λi=>decide (l.getD (i-1) []<l.getD i [])) (j+1) l.length)=q from by
    have:=HP.out
    rw [Tb.ups_step _ hlt,show j-1=i by omega] at this
    exact this)
   obtain ⟨b,o,rfl,hbb,on,on'⟩:=(HR.out.below rfl hb).two hx hy
   rw [Tb.getD_at hx,Tb.getD_at hy] at HP2
   generalize l[j]=x at hx on HP2
   generalize l[i]=y at hy on' HP2
   have c0:=yL on
   have c1:=yL on'
   rw [show j*LTx.m=j from Nat.mul_one _] at c0
   rw [show i*LTx.m=i from Nat.mul_one _] at c1
   clear hb hx hy on on' HP hij hlt hji
   by_cases h2:y<x
   ·have D3:Op.bytesLess (txt x).toList (txt y).toList=false:=by rw[tY];exact decide_eq_false (List.lt_asymm h2)
    have D4:((txt x).toList == (txt y).toList)=false:=by rw[bM,bM];exact ArW.2 λe=>List.lt_irrefl x (by rw[<-e] at h2;exact h2)
    have HT:=hid (show Tb.ups (λi=>decide (l.getD (i-1) []<l.getD i [])) (j+1) l.length=q from by have:=HP2.out;rw[decide_eq_true h2,Bool.true_and] at this;exact this)
    clear h2 HP2
    go_upto_region 4 with fail
    go_quiet (fail)
    go_wp2
    go_roundw
    case rel=>exact ⟨j,by omega,by first|rfl|go_num,HT.out,aI HB.out _⟩
    case measure=>simp [intOf];omega
   obtain ⟨z1,z2,D3,D4,D5⟩:∃ z1 z2,Op.bytesLess (txt x).toList (txt y).toList=z1/\((txt x).toList == (txt y).toList)=z2/\(z1=true∨z2=true):=⟨_,_,rfl,rfl,by rw[tY,bM,bM,AsE,beq_iff_eq];exact List.le_iff_lt_or_eq.1 (List.not_lt.1 h2)⟩
   have HF:=hid (show false=q from by have:=HP2.out;rw[decide_eq_false h2,Bool.false_and] at this;exact this)
   clear h2 HP2
   rcases z1 with _|_ <;> rcases z2 with _|_ <;> first|(exfalso;revert D5;decide;done)|skip
   all_goals clear D5
   all_goals go_upto_region 4 with fail
   all_goals go_quiet (fail)
   all_goals go_wp2_with fail
   all_goals go_ret
   all_goals exact ⟨by rw[<-HF.out] <;> rfl,aI HB.out _⟩
  have d1:decide ((j:Int)<(l.length:Int))=false:=aB (by omega)
  have HF:=hid (show true=q from by have:=HP.out;rw[Tb.ups_over _ (by omega)] at this;exact this)
  clear hb HP hij hji
  go_wp2
  go_ret
  exact ⟨by rw[<-HF.out] <;> rfl,HB.out⟩
 --]
theorem AcM (F:FuncId) (eg:∀ args w,(callFunc F args).run Tryz.prog w=.ok (.enter F args) w) (A:Option Addr) (c:Nat) (L:List Int) (q:Int->Bool) (g:Nat) (w:World) (h:aF.Row w A L) (hl:L.length<=1000000)
 (hq:∀ x∈L,∀ W,Below w.heap.size w W->Calls Tryz.prog F #[.int .i64 x,.pointer (some ⟨g,0,none⟩)] W λe w'=>e=.returned (.bool (q x))/\Below W.heap.size W w') :
 Calls Tryz.prog 164 #[.slice A L.length c,.func (.func F) #[] #[.pointer (some ⟨g,0,none⟩)]] w (xT (L.any q) w):=by
 --[
 have IA:=hid h
 have CL:=hid hq
 clear h hq
 go_enter Tryz.func164,Tryz.ntmps164
 go_wp2
 go_loopg [5,8] L.length (λgg _ s8 wr=>∃ k:Nat,k<=L.length/\L.length-k<=gg/\s8=.int .i64 k/\Below w.heap.size w wr/\∀ j<k,∀ t,L[j]?=some t->q t=false)
 case atStart=>exact ⟨0,AsF _,by omega,rfl,Below.refl _ w,λj hj=>absurd hj (Nat.not_lt_zero _)⟩
 case round =>
  obtain ⟨k,hk,hgg,rfl,hB,h0⟩:=hrel
  have HB:=hid hB
  have H0:=hid h0
  clear hB h0
  by_cases hlt:k<L.length
  ·have d1:decide ((k:Int)<(L.length:Int))=true:=aC (by omega)
   have hx:=ArP hlt
   obtain ⟨b,o,rfl,hb,on⟩:=(IA.out.below rfl HB.out).at hlt
   have CX:=hid (CL.out _ (List.getElem_mem hlt) wr HB.out)
   generalize L[k]=x at hx on CX
   have a0:=eU on
   rw [show k*aF.m=k from Nat.mul_one _] at a0
   have HX:=hid hx
   clear on hx
   cases h1:q x with
   | true =>
     rw [h1] at CX
     have P:=hid (show L.any q=true from List.any_eq_true.2 ⟨x,ArZ HX.out,h1⟩)
     clear h1
     go_wp2_with (refine CX.out.mono ?_;rintro e w' ⟨rfl,hb'⟩;have HB2:=hid (HB.out.trans (hb'.mono HB.out.size));clear hb')
     go_ret
     exact ⟨(k:Int),rfl,(λ_=>aC (by omega)),(λh=>absurd (P.out.symm.trans h) (by decide)),HB2.out⟩
   | false =>
     rw [h1] at CX
     have N:=hid (λj (hj:j<k+1) t (ht:L[j]?=some t)=>(show q t=false from by
      by_cases hjk:j=k
      ·subst hjk
       rw [HX.out] at ht
       cases ht
       exact h1
      exact H0.out j (by omega) t ht))
     clear h1
     go_wp2_with (refine CX.out.mono ?_;rintro e w' ⟨rfl,hb'⟩;have HB2:=hid (HB.out.trans (hb'.mono HB.out.size));clear hb')
     go_roundg (L.length-(k+1))
     case measure=>omega
     case rel=>exact ⟨k+1,by omega,by omega,by go_num,HB2.out,N.out⟩
  obtain rfl:k=L.length:=by omega
  have P:=hid (show L.any q=false from by
   rw [List.any_eq_false]
   intro x hx
   obtain ⟨j,hj,rfl⟩:=List.getElem_of_mem hx
   rw [H0.out j hj _ (ArP hj)]
   decide)
  go_wp2
  go_ret
  exact ⟨-1,rfl,(λh=>absurd (P.out.symm.trans h) (by decide)),(λ_=>rfl),HB.out⟩
 --]
theorem AmF (F:FuncId) (eg:∀ args w,(callFunc F args).run Tryz.prog w=.ok (.enter F args) w) (A:Option Addr) (c:Nat) (L:List Int) (q:Int->Bool) (g:Nat) (w:World) (h:aF.Row w A L) (hl:L.length<=1000000)
 (hq:∀ x∈L,∀ W,Below w.heap.size w W->Calls Tryz.prog F #[.int .i64 x,.pointer (some ⟨g,0,none⟩)] W λe w'=>e=.returned (.bool (q x))/\Below W.heap.size W w') :
 Calls Tryz.prog 141 #[.slice A L.length c,.func (.func F) #[] #[.pointer (some ⟨g,0,none⟩)]] w (OneIs (.bool (L.any q)) w):=by
 --[
 have HC:=hid (AcM F eg A c L q g w h hl hq)
 clear h hq
 generalize L.any q=z at HC ⊢
 go_enter Tryz.func141,Tryz.ntmps141
 go_wp2_with fail
 refine HC.out.mono ?_;rintro e w' ⟨i,rfl,h1,h2,hb'⟩
 have HB:=hid hb'
 clear hb' HC
 cases z with
 | true =>
   have D:=h1 rfl
   clear h1 h2
   go_wp2
   go_ret
   exact ⟨rfl,HB.out⟩
 | false =>
   obtain rfl:=h2 rfl
   clear h1 h2
   go_wp2
   go_ret
   exact ⟨rfl,HB.out⟩
 --]
theorem yQ (F:FuncId) (eg:∀ args w,(callFunc F args).run Tryz.prog w=.ok (.enter F args) w) (A:Option Addr) (c:Nat) (L:List Pl.Nm) (q:Pl.Nm->Bool) (w:World) (h:LTx.Row w A L) (hl:L.length<=1000000)
 (hq:∀ x∈L,∀ W,Below w.heap.size w W->Calls Tryz.prog F #[.string (txt x)] W λe w'=>e=.returned (.bool (q x))/\Below W.heap.size W w') :
 Calls Tryz.prog 91 #[.slice A L.length c,.func (.func F) #[] #[]] w (xT (L.any q) w):=by
 --[
 have IA:=hid h
 have CL:=hid hq
 clear h hq
 go_enter Tryz.func91,Tryz.ntmps91
 go_wp2
 go_loopg [5,8] L.length (λgg _ s8 wr=>∃ k:Nat,k<=L.length/\L.length-k<=gg/\s8=.int .i64 k/\Below w.heap.size w wr/\∀ j<k,∀ t,L[j]?=some t->q t=false)
 case atStart=>exact ⟨0,AsF _,by omega,rfl,Below.refl _ w,λj hj=>absurd hj (Nat.not_lt_zero _)⟩
 case round =>
  obtain ⟨k,hk,hgg,rfl,hB,h0⟩:=hrel
  have HB:=hid hB
  have H0:=hid h0
  clear hB h0
  by_cases hlt:k<L.length
  ·have d1:decide ((k:Int)<(L.length:Int))=true:=aC (by omega)
   have hx:=ArP hlt
   obtain ⟨b,o,rfl,hb,on⟩:=(IA.out.below rfl HB.out).at hlt
   have CX:=hid (CL.out _ (List.getElem_mem hlt) wr HB.out)
   generalize L[k]=x at hx on CX
   have a0:=yL on
   rw [show k*LTx.m=k from Nat.mul_one _] at a0
   have HX:=hid hx
   clear on hx
   cases h1:q x with
   | true =>
     rw [h1] at CX
     have P:=hid (show L.any q=true from List.any_eq_true.2 ⟨x,ArZ HX.out,h1⟩)
     clear h1
     go_wp2_with (refine CX.out.mono ?_;rintro e w' ⟨rfl,hb'⟩;have HB2:=hid (HB.out.trans (hb'.mono HB.out.size));clear hb')
     go_ret
     exact ⟨(k:Int),rfl,(λ_=>aC (by omega)),(λh=>absurd (P.out.symm.trans h) (by decide)),HB2.out⟩
   | false =>
     rw [h1] at CX
     have N:=hid (λj (hj:j<k+1) t (ht:L[j]?=some t)=>(show q t=false from by
      by_cases hjk:j=k
      ·subst hjk
       rw [HX.out] at ht
       cases ht
       exact h1
      exact H0.out j (by omega) t ht))
     clear h1
     go_wp2_with (refine CX.out.mono ?_;rintro e w' ⟨rfl,hb'⟩;have HB2:=hid (HB.out.trans (hb'.mono HB.out.size));clear hb')
     go_roundg (L.length-(k+1))
     case measure=>omega
     case rel=>exact ⟨k+1,by omega,by omega,by go_num,HB2.out,N.out⟩
  obtain rfl:k=L.length:=by omega
  have P:=hid (show L.any q=false from by
   rw [List.any_eq_false]
   intro x hx
   obtain ⟨j,hj,rfl⟩:=List.getElem_of_mem hx
   rw [H0.out j hj _ (ArP hj)]
   decide)
  go_wp2
  go_ret
  exact ⟨-1,rfl,(λh=>absurd (P.out.symm.trans h) (by decide)),(λ_=>rfl),HB.out⟩
 --]
theorem AhR (F:FuncId) (eg:∀ args w,(callFunc F args).run Tryz.prog w=.ok (.enter F args) w) (A:Option Addr) (c:Nat) (L:List Pl.Nm) (q:Pl.Nm->Bool) (w:World) (h:LTx.Row w A L) (hl:L.length<=1000000)
 (hq:∀ x∈L,∀ W,Below w.heap.size w W->Calls Tryz.prog F #[.string (txt x)] W λe w'=>e=.returned (.bool (q x))/\Below W.heap.size W w') :
 Calls Tryz.prog 52 #[.slice A L.length c,.func (.func F) #[] #[]] w (OneIs (.bool (L.any q)) w):=by
 --[
 have HC:=hid (yQ F eg A c L q w h hl hq)
 clear h hq
 generalize L.any q=z at HC ⊢
 go_enter Tryz.func52,Tryz.ntmps52
 go_wp2_with fail
 refine HC.out.mono ?_;rintro e w' ⟨i,rfl,h1,h2,hb'⟩
 have HB:=hid hb'
 clear hb' HC
 cases z with
 | true =>
   have D:=h1 rfl
   clear h1 h2
   go_wp2
   go_ret
   exact ⟨rfl,HB.out⟩
 | false =>
   obtain rfl:=h2 rfl
   clear h1 h2
   go_wp2
   go_ret
   exact ⟨rfl,HB.out⟩
 --]
theorem yR (F:FuncId) (eg:∀ args w,(callFunc F args).run Tryz.prog w=.ok (.enter F args) w) (A:Option Addr) (c:Nat) (L:List Wk.Stp) (q:Wk.Stp->Bool) (g:Nat) (w:World) (h:aE.Row w A L) (hl:L.length<=1000000)
 (hq:∀ x∈L,∀ W,Below w.heap.size w W->Calls Tryz.prog F #[kA x,.pointer (some ⟨g,0,none⟩)] W λe w'=>e=.returned (.bool (q x))/\Below W.heap.size W w') :
 Calls Tryz.prog 163 #[.slice A L.length c,.func (.func F) #[] #[.pointer (some ⟨g,0,none⟩)]] w (xT (L.any q) w):=by
 --[
 have IA:=hid h
 have CL:=hid hq
 clear h hq
 go_enter Tryz.func163,Tryz.ntmps163
 go_wp2
 go_loopg [5,8] L.length (λgg _ s8 wr=>∃ k:Nat,k<=L.length/\L.length-k<=gg/\s8=.int .i64 k/\Below w.heap.size w wr/\∀ j<k,∀ t,L[j]?=some t->q t=false)
 case atStart=>exact ⟨0,AsF _,by omega,rfl,Below.refl _ w,λj hj=>absurd hj (Nat.not_lt_zero _)⟩
 case round =>
  obtain ⟨k,hk,hgg,rfl,hB,h0⟩:=hrel
  have HB:=hid hB
  have H0:=hid h0
  clear hB h0
  by_cases hlt:k<L.length
  ·have d1:decide ((k:Int)<(L.length:Int))=true:=aC (by omega)
   have hx:=ArP hlt
   obtain ⟨b,o,rfl,hb,on⟩:=(IA.out.below rfl HB.out).at hlt
   have CX:=hid (CL.out _ (List.getElem_mem hlt) wr HB.out)
   generalize L[k]=x at hx on CX
   obtain ⟨a0,a1,a2⟩:=bO on
   rw [show k*aE.m=k*3 from rfl] at a0 a1 a2
   have HX:=hid hx
   clear on hx
   cases h1:q x with
   | true =>
     rw [h1] at CX
     have P:=hid (show L.any q=true from List.any_eq_true.2 ⟨x,ArZ HX.out,h1⟩)
     clear h1
     go_wp2_with (refine CX.out.mono ?_;rintro e w' ⟨rfl,hb'⟩;have HB2:=hid (HB.out.trans (hb'.mono HB.out.size));clear hb')
     go_ret
     exact ⟨(k:Int),rfl,(λ_=>aC (by omega)),(λh=>absurd (P.out.symm.trans h) (by decide)),HB2.out⟩
   | false =>
     rw [h1] at CX
     have N:=hid (λj (hj:j<k+1) t (ht:L[j]?=some t)=>(show q t=false from by
      by_cases hjk:j=k
      ·subst hjk
       rw [HX.out] at ht
       cases ht
       exact h1
      exact H0.out j (by omega) t ht))
     clear h1
     go_wp2_with (refine CX.out.mono ?_;rintro e w' ⟨rfl,hb'⟩;have HB2:=hid (HB.out.trans (hb'.mono HB.out.size));clear hb')
     go_roundg (L.length-(k+1))
     case measure=>omega
     case rel=>exact ⟨k+1,by omega,by omega,by go_num,HB2.out,N.out⟩
  obtain rfl:k=L.length:=by omega
  have P:=hid (show L.any q=false from by
   rw [List.any_eq_false]
   intro x hx
   obtain ⟨j,hj,rfl⟩:=List.getElem_of_mem hx
   rw [H0.out j hj _ (ArP hj)]
   decide)
  go_wp2
  go_ret
  exact ⟨-1,rfl,(λh=>absurd (P.out.symm.trans h) (by decide)),(λ_=>rfl),HB.out⟩
 --]
theorem AhS (F:FuncId) (eg:∀ args w,(callFunc F args).run Tryz.prog w=.ok (.enter F args) w) (A:Option Addr) (c:Nat) (L:List Wk.Stp) (q:Wk.Stp->Bool) (g:Nat) (w:World) (h:aE.Row w A L) (hl:L.length<=1000000)
 (hq:∀ x∈L,∀ W,Below w.heap.size w W->Calls Tryz.prog F #[kA x,.pointer (some ⟨g,0,none⟩)] W λe w'=>e=.returned (.bool (q x))/\Below W.heap.size W w') :
 Calls Tryz.prog 137 #[.slice A L.length c,.func (.func F) #[] #[.pointer (some ⟨g,0,none⟩)]] w (OneIs (.bool (L.any q)) w):=by
 --[
 have HC:=hid (yR F eg A c L q g w h hl hq)
 clear h hq
 generalize L.any q=z at HC ⊢
 go_enter Tryz.func137,Tryz.ntmps137
 go_wp2_with fail
 refine HC.out.mono ?_;rintro e w' ⟨i,rfl,h1,h2,hb'⟩
 have HB:=hid hb'
 clear hb' HC
 cases z with
 | true =>
   have D:=h1 rfl
   clear h1 h2
   go_wp2
   go_ret
   exact ⟨rfl,HB.out⟩
 | false =>
   obtain rfl:=h2 rfl
   clear h1 h2
   go_wp2
   go_ret
   exact ⟨rfl,HB.out⟩
 --]
theorem yS (x n:Int) (w:World):Calls Tryz.prog 94 #[.int .i64 x,.int .i64 n] w λe w'=>e=.returned (.bool (Tb.isIn x n))/\w'=w:=by
 --[
 show Calls Tryz.prog 94 #[.int .i64 x,.int .i64 n] w λe w'=>e=.returned (.bool (decide (0<=x) && decide (x<n)))/\w'=w
 generalize hz1:decide (0<=x)=z1
 generalize hz2:decide (x<n)=z2
 go_enter Tryz.func94,Tryz.ntmps94
 cases z1 with
 | false =>
   go_wp2
   go_ret
   exact ⟨rfl,rfl⟩
 | true =>
   go_wp2
   go_ret
   exact ⟨rfl,rfl⟩
 --]
theorem lK (x n:Int) (w:World):Calls Tryz.prog 26 #[.int .i64 x,.int .i64 n] w λe w'=>e=.returned (.bool (Tb.upTo x n))/\w'=w:=by
 --[
 show Calls Tryz.prog 26 #[.int .i64 x,.int .i64 n] w λe w'=>e=.returned (.bool (decide (0<=x) && decide (x<=n)))/\w'=w
 generalize hz1:decide (0<=x)=z1
 generalize hz2:decide (x<=n)=z2
 go_enter Tryz.func26,Tryz.ntmps26
 cases z1 with
 | false =>
   go_wp2
   go_ret
   exact ⟨rfl,rfl⟩
 | true =>
   go_wp2
   go_ret
   exact ⟨rfl,rfl⟩
 --]
theorem AcN (x:Wk.Stp) (pt:Bool) (w:World):Calls Tryz.prog 136 #[kA x,.bool pt] w (OneIs (.bool (Tb.throughOk pt x)) w):=by
 --[
 obtain ⟨xs,xf,xt⟩:=x
 have XX:=(AuN w).alloc (ArT _) (jE ⟨xs,xf,xt⟩)
 have X:=hid XX
 have RS:=AuH w (jE ⟨xs,xf,xt⟩)
 have c1:=AuJ _ w.heap.size 1 _ _ _ RS
 have c2:=AuJ _ w.heap.size 2 _ _ _ RS
 have V:=hid (show Tb.throughOk pt ⟨xs,xf,xt⟩=((min xf xt == 0) && decide (0<max xf xt) && decide (max xf xt<=if pt=true then 2 else 1)) from rfl)
 clear XX RS
 rw [V.out]
 clear V
 show Calls Tryz.prog 136 #[.agg #[.int .i64 xs,.int .i64 xf,.int .i64 xt],.bool pt] w _
 cases pt with
 | true =>
   rw [AsB rfl]
   generalize hz1:(min xf xt == 0)=z1
   generalize hz2:decide (0<max xf xt)=z2
   generalize hz3:decide (max xf xt<=2)=z3
   go_enter Tryz.func136,Tryz.ntmps136
   cases z1 with
   | false =>
     go_wp2
     go_ret
     exact ⟨rfl,X.out⟩
   | true =>
     cases z2 with
     | false =>
       go_wp2
       go_ret
       exact ⟨rfl,X.out⟩
     | true =>
       go_wp2
       go_ret
       exact ⟨rfl,X.out⟩
 | false =>
   rw [AsA (by decide)]
   generalize hz1:(min xf xt == 0)=z1
   generalize hz2:decide (0<max xf xt)=z2
   generalize hz3:decide (max xf xt<=1)=z3
   go_enter Tryz.func136,Tryz.ntmps136
   cases z1 with
   | false =>
     go_wp2
     go_ret
     exact ⟨rfl,X.out⟩
   | true =>
     cases z2 with
     | false =>
       go_wp2
       go_ret
       exact ⟨rfl,X.out⟩
     | true =>
       go_wp2
       go_ret
       exact ⟨rfl,X.out⟩
 --]
theorem AhT (x:Pl.Nm) (w:World) (hx:x.length<=1000000):Calls Tryz.prog 53 #[.string (txt x)] w λe w'=>e=.returned (.bool (!Fig.nameB x))/\Below w.heap.size w w':=by
 --[
 have C:=hid (ApM x w hx (Fig.nameB x) rfl)
 generalize Fig.nameB x=z at C ⊢
 have B0:=hid (AuN w)
 go_enter Tryz.func53,Tryz.ntmps53
 go_wp2_with fail
 refine C.out.mono ?_;rintro e w' ⟨rfl,rfl⟩
 go_wp2
 go_ret
 exact ⟨rfl,B0.out⟩
 --]
theorem kL (A:Option Addr) (c:Nat) (l:List Pl.Nm) (w:World) (h:LTx.Row w A l) (hl:l.length<=1000000) (hn:∀ x∈l,x.length<=1000000) :
 Calls Tryz.prog 25 #[.slice A l.length c] w (OneIs (.bool (Tb.namesOk l)) w):=by
 --[
 have C1:=hid (qL A c l w h hl)
 have C2:=hid (λW (hW:Below w.heap.size w W)=>AhR 53 (enters_of Tryz.func53 (by kernel_rfl) rfl) A c l (λx=>!Fig.nameB x) W (h.below rfl hW) hl (λx hx W' _=>AhT x W' (hn x hx)))
 rw [<-Tb.named_eq l]
 generalize Tb.risesN l=z1 at C1 ⊢
 generalize (l.any λx=>!Fig.nameB x)=z2 at C2 ⊢
 clear h hn
 go_enter Tryz.func25,Tryz.ntmps25
 go_wp2_with fail
 refine C1.out.mono ?_;rintro e w1 ⟨rfl,hb1⟩
 have B1:=hid hb1
 clear hb1 C1
 cases z1 with
 | false =>
   go_wp2
   go_ret
   exact ⟨rfl,B1.out⟩
 | true =>
   go_wp2_with fail
   refine (C2.out _ B1.out).mono ?_;rintro e w2 ⟨rfl,hb2⟩
   have B2:=hid (B1.out.trans (hb2.mono B1.out.size))
   clear hb2 C2
   go_wp2
   go_ret
   exact ⟨rfl,B2.out⟩
 --]
theorem AcO (x n:Int) (g:Nat) (w:World) (hg:w.cell? ⟨g,0,none⟩=some (.int .i64 n)):Calls Tryz.prog 142 #[.int .i64 x,.pointer (some ⟨g,0,none⟩)] w λe w'=>e=.returned (.bool (!Tb.isIn x n))/\Below w.heap.size w w':=by
 --[
 have C:=hid (yS x n w)
 generalize Tb.isIn x n=z at C ⊢
 have B0:=hid (AuN w)
 go_enter Tryz.func142,Tryz.ntmps142
 go_wp2_with fail
 refine C.out.mono ?_;rintro e w' ⟨rfl,rfl⟩
 go_wp2
 go_ret
 exact ⟨rfl,B0.out⟩
 --]
theorem iS (A:Option Addr) (c:Nat) (l:List Int) (n:Int) (w:World) (h:aF.Row w A l) (hl:l.length<=1000000) :
 Calls Tryz.prog 99 #[.slice A l.length c,.int .i64 n] w (OneIs (.bool (Tb.risingOk l n)) w):=by
 --[
 have XX:=(AuN w).alloc (ArT _) (.cells #[.int .i64 n] 3)
 have X:=hid XX
 have RP:=hid (AuH w (.cells #[.int .i64 n] 3))
 have hsz:w.heap.size<(w.alloc (.cells #[.int .i64 n] 3)).heap.size:=by simp
 have C1:=hid (kK A c l _ (h.below rfl XX) hl)
 have C2:=hid (λW (hW:Below (w.alloc (.cells #[.int .i64 n] 3)).heap.size (w.alloc (.cells #[.int .i64 n] 3)) W)=>AmF 142 (enters_of Tryz.func142 (by kernel_rfl) rfl) A c l (λx=>!Tb.isIn x n) w.heap.size W ((h.below rfl XX).below rfl hW) hl (λx _ W' hW'=>AcO x n w.heap.size W'
  (AuJ _ _ 0 _ _ _ ((hW'.block _ (AsG hsz hW.size)).trans ((hW.block _ hsz).trans (AuH w _))))))
 rw [<-Tb.places_eq l n]
 generalize Tb.rises l=z1 at C1 ⊢
 generalize (l.any λx=>!Tb.isIn x n)=z2 at C2 ⊢
 clear h XX hsz
 go_enter Tryz.func99,Tryz.ntmps99
 go_upto_region 1 with fail
 generalize w.alloc (.cells #[.int .i64 n] 3)=w1 at X RP C1 C2 ⊢
 generalize w.heap.size=g at RP C2 ⊢
 go_wp2_with fail
 refine C1.out.mono ?_;rintro e w2 ⟨rfl,hb1⟩
 have B1:=hid hb1
 have F1:=hid (X.out.trans (hb1.mono X.out.size))
 clear hb1 C1
 cases z1 with
 | false =>
   go_wp2
   go_ret
   exact ⟨rfl,F1.out⟩
 | true =>
   go_wp2_with fail
   refine (C2.out _ B1.out).mono ?_;rintro e w3 ⟨rfl,hb2⟩
   have F2:=hid (F1.out.trans (hb2.mono F1.out.size))
   clear hb2 C2
   go_wp2
   go_ret
   exact ⟨rfl,F2.out⟩
 --]
theorem AoL (x:Wk.Stp) (A':Option Addr) (c':Nat) (M:List Wk.Stp) (g:Nat) (w:World) (hg:w.cell? ⟨g,0,none⟩=some (.slice A' M.length c')) (hlt:g<w.heap.size) (hM:aE.Row w A' M) (hl:M.length<=1000000):Calls Tryz.prog 138 #[kA x,.pointer (some ⟨g,0,none⟩)] w λe w'=>e=.returned (.bool (Wk.within M x.s))/\Below w.heap.size w w':=by
 --[
 obtain ⟨a,b,d⟩:=x
 have XX:=(AuN w).alloc (ArT _) (jE ⟨a,b,d⟩)
 have X:=hid XX
 have C:=hid (bI A' c' M a _ (hM.below rfl XX) hl)
 clear hM XX
 show Calls Tryz.prog 138 #[.agg #[.int .i64 a,.int .i64 b,.int .i64 d],.pointer (some ⟨g,0,none⟩)] w λe w'=>e=.returned (.bool (Wk.within M a))/\Below w.heap.size w w'
 generalize Wk.within M a=z at C ⊢
 go_enter Tryz.func138,Tryz.ntmps138
 go_wp2_with fail
 refine C.out.mono ?_;rintro e w2 ⟨rfl,hb2⟩
 have XF:=hid (X.out.trans (hb2.mono X.out.size))
 clear hb2 C X
 go_wp2
 go_ret
 exact ⟨rfl,XF.out⟩
 --]
theorem vB (A:Option Addr) (c:Nat) (L:List Wk.Stp) (A':Option Addr) (c':Nat) (M:List Wk.Stp) (w:World) (h:aE.Row w A L) (hl:L.length<=1000000) (h':aE.Row w A' M) (hl':M.length<=1000000) :
 Calls Tryz.prog 96 #[.slice A L.length c,.slice A' M.length c'] w (OneIs (.bool (!L.any λx=>Wk.within M x.s)) w):=by
 --[
 have XX:=(AuN w).alloc (ArT _) (.cells #[.slice A' M.length c'] 62)
 have X:=hid XX
 have hsz:w.heap.size<(w.alloc (.cells #[.slice A' M.length c'] 62)).heap.size:=by simp
 have C:=hid (AhS 138 (enters_of Tryz.func138 (by kernel_rfl) rfl) A c L (λx=>Wk.within M x.s) w.heap.size _ (h.below rfl XX) hl (λx _ W hW=>AoL x A' c' M w.heap.size W
  (AuJ _ _ 0 _ _ _ ((hW.block _ hsz).trans (AuH w _))) (AsG hsz hW.size) ((h'.below rfl XX).below rfl hW) hl'))
 generalize (L.any λx=>Wk.within M x.s)=z at C ⊢
 clear h h' XX hsz
 go_enter Tryz.func96,Tryz.ntmps96
 go_wp2_with fail
 refine C.out.mono ?_;rintro e w1 ⟨rfl,hb1⟩
 have F1:=hid (X.out.trans (hb1.mono X.out.size))
 clear hb1 C X
 go_wp2
 go_ret
 exact ⟨rfl,F1.out⟩
 --]
theorem vC (m:TableM) (w:World):Calls Tryz.prog 24 #[tbV m] w (OneIs (.bool (Tb.sizesOk m.t)) w):=by
 --[
 have XX:=(AuN w).alloc (ArT _) (tbO m)
 have X:=hid XX
 obtain ⟨⟨p0,p1,p2,p3,p4,p5⟩,gx⟩:=eO (AuH w (tbO m))
 have V:=hid (show Tb.sizesOk m.t=(decide ((m.t.names.length:Int)<=24) && ((m.t.points.length:Int) == (m.t.names.length:Int)) && decide ((m.t.sigs.length:Int)<=12) && decide ((m.t.routes.length:Int)<=30)) from rfl)
 rw [V.out]
 have hy1:decide (m.t.names.length<=24)=decide ((m.t.names.length:Int)<=24):=by congr 1;rw[eq_iff_iff];omega
 have hy3:decide (m.t.sigs.length<=12)=decide ((m.t.sigs.length:Int)<=12):=by congr 1;rw[eq_iff_iff];omega
 have hy4:decide (m.t.routes.length<=30)=decide ((m.t.routes.length:Int)<=30):=by congr 1;rw[eq_iff_iff];omega
 generalize hz1:decide ((m.t.names.length:Int)<=24)=z1 at hy1 ⊢
 generalize hz2:((m.t.points.length:Int) == (m.t.names.length:Int))=z2
 generalize hz3:decide ((m.t.sigs.length:Int)<=12)=z3 at hy3 ⊢
 generalize hz4:decide ((m.t.routes.length:Int)<=30)=z4 at hy4 ⊢
 clear XX V
 go_enter Tryz.func24,Tryz.ntmps24
 go_upto_region 1 with fail
 generalize w.alloc (tbO m)=w1 at X p0 p1 p2 p3 p4 p5 gx ⊢
 generalize w.heap.size=g at p0 p1 p2 p3 p4 p5 gx ⊢
 cases z1 with
 | false =>
   go_wp2
   go_ret
   exact ⟨rfl,X.out⟩
 | true =>
 cases z2 with
 | false =>
   go_wp2
   go_ret
   exact ⟨rfl,X.out⟩
 | true =>
 cases z3 with
 | false =>
   go_wp2
   go_ret
   exact ⟨rfl,X.out⟩
 | true =>
   go_wp2
   go_ret
   exact ⟨rfl,X.out⟩
 --]
theorem mI (m:TableM) (A:Option Addr) (c:Nat) (d:List Dm.Dem) (A':Option Addr) (c':Nat) (l:List Wk.Stp) (w:World) (h1:LBo.Row w m.A1 m.t.points) (h:aJ.Row w A d) (hl:d.length<=1000000) (h':aE.Row w A' l) (hl':l.length<=1000000) (hin:∀ x∈l,0<=x.s/\x.s<(m.t.points.length:Int)) :
 Calls Tryz.prog 98 #[tbV m,.slice A d.length c,.slice A' l.length c'] w (OneIs (.bool (Tb.asksOk m.t.points d l)) w):=by
 --[
 have XX:=(AuN w).alloc (ArT _) (tbO m)
 have X:=hid XX
 have HD:=hid (h.below rfl XX)
 have HR:=hid (h'.below rfl XX)
 have HP1:=hid (h1.below rfl XX)
 have RP:=hid (AuH w (tbO m))
 have HIN:=hid hin
 generalize hq:Tb.asksOk m.t.points d l=q
 have HQ:=hid (show (l.drop 0).all (Tb.askOk m.t.points d)=q from hq)
 clear h h1 h' hq XX hin
 go_enter Tryz.func98,Tryz.ntmps98
 go_upto_region 1 with fail
 generalize w.alloc (tbO m)=w1 at X HD HR HP1 RP ⊢
 generalize hg:w.heap.size=g at RP ⊢
 have gl:=(eO RP.out).2
 have KB:=hid (λW (hW:Below w1.heap.size w1 W)=>(eO ((hW.block _ gl).trans RP.out)).1.2.1)
 have B0:=hid (AuN w1)
 clear gl hg
 go_wp2_with fail
 go_loopw [8,11] (λ_ v w'=>∃ j:Nat,j<=l.length/\v=.int .i64 j/\(l.drop j).all (Tb.askOk m.t.points d)=q/\Below w1.heap.size w1 w') (λ_ v _=>l.length-(intOf v).toNat)
 case atStart=>exact ⟨0,AsF _,rfl,HQ.out,B0.out⟩
 case round =>
  clear HQ
  obtain ⟨j,hj,rfl,hp,hb⟩:=hrel
  have HB:=hid (X.out.trans (hb.mono X.out.size))
  have HB1:=hid hb
  by_cases hlt:j<l.length
  ·have d1:decide ((j:Int)<(l.length:Int))=true:=aC (by omega)
   have j0:(0:Int)<=(j:Int):=ArV j
   have j1:(j:Int)<(l.length:Int):=by omega
   obtain ⟨hx0,hx1⟩:=HIN.out _ (List.getElem_mem hlt)
   rw [List.drop_eq_getElem_cons hlt,List.all_cons] at hp
   obtain ⟨b,o,rfl,hbb,on⟩:=(HR.out.below rfl hb).at hlt
   generalize l[j]=x at hp on hx0 hx1
   obtain ⟨xs,xf,xt⟩:=x
   obtain ⟨c0,c1,c2⟩:=bO on
   rw [show j*aE.m=j*3 from rfl] at c0 c1 c2
   simp only at c0 c1 c2 hx0 hx1
   obtain ⟨k,rfl⟩:∃ k:Nat,xs=(k:Int):=⟨xs.toNat,by omega⟩
   have hkp:k<m.t.points.length:=by omega
   have k0:(0:Int)<=(k:Int):=ArV k
   have k1:(k:Int)<(m.t.points.length:Int):=by omega
   have HK:=hid (show Tb.askOk m.t.points d ⟨(k:Int),xf,xt⟩=(!m.t.points.getD k false || (Dm.posOf d (k:Int) == max xf xt)) from by
    unfold Tb.askOk
    rw [AuA])
   have HP:=hid hp
   have Y0:=(AuN wr).alloc (ArT _) (jE ⟨(k:Int),xf,xt⟩)
   have RY:=hid (AuH wr (jE ⟨(k:Int),xf,xt⟩))
   have Y:=hid (hb.trans (Y0.mono hb.size))
   clear hb hp on hbb Y0
   go_upto_region 4 with fail
   generalize wr.alloc (jE ⟨(k:Int),xf,xt⟩)=w3 at RY Y ⊢
   generalize wr.heap.size=gy at RY ⊢
   have gly:=(ArN RY.out).1
   obtain ⟨bp,op,hA1,hbp,cp⟩:=yM (HP1.out.below rfl Y.out) hkp
   have KS:=hid (λW (hW:Below w3.heap.size w3 W)=>show W.cell? ⟨g,1,none⟩=some (.slice (some ⟨bp,op,none⟩) m.t.points.length m.c1)/\W.cell? ⟨bp,op+k,none⟩=some (.bool (m.t.points.getD k false))/\W.cell? ⟨gy,0,none⟩=some (.int .i64 k)/\W.cell? ⟨gy,1,none⟩=some (.int .i64 xf)/\W.cell? ⟨gy,2,none⟩=some (.int .i64 xt) from
    ⟨by have:=KB.out _ (Y.out.trans (hW.mono Y.out.size));rw[hA1] at this;exact this,(hW.cell (p:=⟨bp,op+k,none⟩) hbp).trans cp,AuJ _ gy 0 _ _ _ ((hW.block _ gly).trans RY.out),AuJ _ gy 1 _ _ _ ((hW.block _ gly).trans RY.out),AuJ _ gy 2 _ _ _ ((hW.block _ gly).trans RY.out)⟩)
   have CP:=hid (λW (hW:Below w3.heap.size w3 W)=>(cX A c d (k:Int) W ((HD.out.below rfl Y.out).below rfl hW) hl).mono λe w' h=>(⟨h.1,hW.trans (h.2.mono hW.size)⟩:e=.returned (.int .i64 (Dm.posOf d (k:Int)))/\Below w3.heap.size w3 w'))
   generalize Dm.posOf d (k:Int)=ps at HK CP
   generalize m.t.points.getD k false=pt at KS HK
   have HB3:=hid Y.out
   clear hA1 hbp cp gly
   cases pt with
   | false =>
     have HT:=hid (show (l.drop (j+1)).all (Tb.askOk m.t.points d)=q from by have:=HP.out;rw[HK.out] at this;exact this)
     clear HP HK
     refine aS (λW=>Below w3.heap.size w3 W) (by kernel_rfl) (by kernel_rfl) (AuN w3).drew ?_
     repeat ((first
      | refine InText.dead ?_
      | (refine InText.val (v:=?_) ?_ ?_;rotate_left;(focus (intro W hW;obtain ⟨s0,s1,s2,s3,s4⟩:=KS.out W hW;go_simp;(try with_reducible rfl);done)))
      | (refine InText.call (v:=?_) (f:=?_) (args:=?_) ?_ ?_ ?_;rotate_left 3;(focus (intro W hW;go_simp;constructor;with_reducible rfl;with_reducible rfl));(focus exact CP.out)));(try simp only [Act.put,ArQ,ArR,ArS]))
     refine InText.end_ λw4 hb4=>?_
     have HB4:=hid (HB3.out.trans (hb4.mono HB3.out.size))
     clear hb4
     go_wp2
     go_roundw
     case rel=>exact ⟨j+1,by omega,by go_num,HT.out,HB4.out⟩
     case measure=>simp [intOf];omega
   | true =>
     obtain ⟨z,hz⟩:∃ z,(ps != max xf xt)=z:=⟨_,rfl⟩
     have HK2:=hid (show Tb.askOk m.t.points d ⟨(k:Int),xf,xt⟩ = !z from by rw[HK.out,<-hz];unfold bne;rw[Bool.not_not];rfl)
     refine aS (λW=>Below w3.heap.size w3 W) (by kernel_rfl) (by kernel_rfl) (AuN w3).drew ?_
     repeat ((first
      | refine InText.dead ?_
      | (refine InText.val (v:=?_) ?_ ?_;rotate_left;(focus (intro W hW;obtain ⟨s0,s1,s2,s3,s4⟩:=KS.out W hW;go_simp;(try with_reducible rfl);done)))
      | (refine InText.call (v:=?_) (f:=?_) (args:=?_) ?_ ?_ ?_;rotate_left 3;(focus (intro W hW;go_simp;constructor;with_reducible rfl;with_reducible rfl));(focus exact CP.out)));(try simp only [Act.put,ArQ,ArR,ArS]))
     refine InText.end_ λw4 hb4=>?_
     have HB4:=hid (HB3.out.trans (hb4.mono HB3.out.size))
     have HF4:=hid (X.out.trans (HB4.out.mono X.out.size))
     clear hb4
     cases z with
     | false =>
       have HT:=hid (show (l.drop (j+1)).all (Tb.askOk m.t.points d)=q from by have:=HP.out;rw[HK2.out] at this;exact this)
       clear HP HK HK2
       go_wp2
       go_roundw
       case rel=>exact ⟨j+1,by omega,by go_num,HT.out,HB4.out⟩
       case measure=>simp [intOf];omega
     | true =>
       have HF:=hid (show false=q from by have:=HP.out;rw[HK2.out] at this;exact this)
       clear HP HK HK2
       go_wp2
       go_ret
       exact ⟨by rw[<-HF.out] <;> rfl,HF4.out⟩
  obtain rfl:j=l.length:=by omega
  have d1:decide ((l.length:Int)<(l.length:Int))=false:=aB (by omega)
  have HF:=hid (show true=q from by rw[List.drop_length] at hp;exact hp)
  clear hp hb
  go_wp2
  go_ret
  exact ⟨by rw[<-HF.out] <;> rfl,HB.out⟩
 --]
theorem vD (m:TableM) (A:Option Addr) (c:Nat) (l:List Dm.Dem) (w:World) (h1:LBo.Row w m.A1 m.t.points) (hpn:m.t.points.length=m.t.names.length) (h:aJ.Row w A l) (hl:l.length<=1000000) :
 Calls Tryz.prog 97 #[tbV m,.slice A l.length c] w (OneIs (.bool (Tb.demandsOk m.t.points l)) w):=by
 --[
 have XX:=(AuN w).alloc (ArT _) (tbO m)
 have X:=hid XX
 have HD:=hid (h.below rfl XX)
 have HP1:=hid (h1.below rfl XX)
 have RP:=hid (AuH w (tbO m))
 rw [<-Tb.asked_eq]
 generalize hq:(l.all (Tb.askedOk m.t.points m.t.points.length) && Tb.rises (l.map Dm.Dem.pt))=q
 have HQ:=hid (show ((l.drop 0).all (Tb.askedOk m.t.points m.t.points.length) && Tb.rises (l.map Dm.Dem.pt))=q from hq)
 have HPN:=hid hpn
 clear h h1 hq XX hpn
 go_enter Tryz.func97,Tryz.ntmps97
 go_upto_region 1 with fail
 generalize w.alloc (tbO m)=w1 at X HD HP1 RP ⊢
 generalize hg:w.heap.size=g at RP ⊢
 have gl:=(eO RP.out).2
 have KB:=hid (λW (hW:Below w1.heap.size w1 W)=>AsX (eO ((hW.block _ gl).trans RP.out)).1.1 (eO ((hW.block _ gl).trans RP.out)).1.2.1)
 have B0:=hid (AuN w1)
 have O0:=hid (World.ownsRow_nil w1 w1.heap.size 3 aF.m)
 clear gl hg
 go_wp2_with fail
 go_loopw [5,7,10] (λv5 _ v w'=>∃ (j:Nat) (Ap:Option Addr) (cp:Nat),j<=l.length/\v=.int .i64 j/\v5=.slice Ap j cp/\w'.ownsRow w1.heap.size 3 aF.m (.slice Ap j cp) j (aF.all ((l.take j).map Dm.Dem.pt))/\((l.drop j).all (Tb.askedOk m.t.points m.t.points.length) && Tb.rises (l.map Dm.Dem.pt))=q/\Below w1.heap.size w1 w') (λ_ _ v _=>l.length-(intOf v).toNat)
 case atStart=>exact ⟨0,none,0,AsF _,rfl,rfl,O0.out,HQ.out,B0.out⟩
 case round =>
  clear HQ O0
  obtain ⟨j,Ap,cp,hj,rfl,rfl,ho,hp,hb⟩:=hrel
  have HB:=hid (X.out.trans (hb.mono X.out.size))
  have HB1:=hid hb
  by_cases hlt:j<l.length
  ·have d1 : decide ((j:Int)<(l.length:Int))=true:=aC (by omega)
   have j0:(0:Int)<=(j:Int):=ArV j
   have j1:(j:Int)<(l.length:Int):=by omega
   have HTK:=hid (show (l.take (j+1)).map Dm.Dem.pt=(l.take j).map Dm.Dem.pt++[l[j].pt] from by
    rw [AtV hlt,List.map_append];rfl)
   rw [List.drop_eq_getElem_cons hlt,List.all_cons] at hp
   obtain ⟨b,o,rfl,hbb,on⟩:=(HD.out.below rfl hb).at hlt
   generalize l[j]=x at hp on HTK
   obtain ⟨xp,xq⟩:=x
   obtain ⟨c0,c1⟩:=eV on
   rw [show j*aJ.m=j*2 from rfl] at c0 c1
   simp only at c0 c1 HTK
   have HP:=hid hp
   have HK:=hid (show Tb.askedOk m.t.points m.t.points.length ⟨xp,xq⟩=(Tb.isIn xp m.t.names.length && m.t.points.getD xp.toNat false && ((xq == 1) || (xq == 2))) from by rw[<-HPN.out];rfl)
   have Y0:=(AuN wr).alloc (ArT _) (.cells #[.int .i64 xp,.int .i64 xq] 125)
   have RY:=hid (AuH wr (.cells #[.int .i64 xp,.int .i64 xq] 125))
   have Y:=hid (hb.trans (Y0.mono hb.size))
   have HO:=hid (aA ho Y0)
   clear hb hp on hbb Y0 ho
   go_upto_region 5 with fail
   generalize wr.alloc (.cells #[.int .i64 xp,.int .i64 xq] 125)=w3 at RY Y HO ⊢
   generalize wr.heap.size=gy at RY ⊢
   have FY:=hid (X.out.trans (Y.out.mono X.out.size))
   have gly:=(ArN RY.out).1
   have y0:=AuJ _ gy 0 _ _ _ RY.out
   have y1:=AuJ _ gy 1 _ _ _ RY.out
   obtain ⟨kb0,kb1⟩:=KB.out _ Y.out
   clear c0 c1
   have CI:=hid (yS xp m.t.names.length w3)
   cases hz:Tb.isIn xp m.t.names.length with
   | false =>
     rw [hz] at CI HK
     have HF:=hid (show false=q from by have:=HP.out;rw[HK.out] at this;exact this)
     clear HP HK hz
     go_wp2_with fail
     refine CI.out.mono ?_;rintro e w' ⟨rfl,rfl⟩
     go_wp2
     go_ret
     exact ⟨by rw[<-HF.out] <;> rfl,FY.out⟩
   | true =>
     rw [hz] at CI HK
     obtain ⟨h0,h1⟩:=Tb.isIn_iff.1 hz
     obtain ⟨k,rfl⟩:∃ k:Nat,xp=(k:Int):=⟨xp.toNat,by omega⟩
     have hkp:k<m.t.points.length:=by have:=HPN.out;omega
     have k0:(0:Int)<=(k:Int):=ArV k
     have k1:(k:Int)<(m.t.points.length:Int):=by omega
     obtain ⟨bp,op,hA1,hbp,cp1⟩:=yM (HP1.out.below rfl Y.out) hkp
     rw [hA1] at kb1
     rw [AuA] at HK
     generalize m.t.points.getD k false=pt at cp1 HK
     clear hz h0 h1 hA1
     cases pt with
     | false =>
       have HF:=hid (show false=q from by have:=HP.out;rw[HK.out] at this;exact this)
       clear HP HK
       go_wp2_with fail
       refine CI.out.mono ?_;rintro e w' ⟨rfl,rfl⟩
       go_wp2
       go_ret
       exact ⟨by rw[<-HF.out] <;> rfl,FY.out⟩
     | true =>
       by_cases hq12:xq=1∨xq=2
       ·have HT:=hid (show ((l.drop (j+1)).all (Tb.askedOk m.t.points m.t.points.length) && Tb.rises (l.map Dm.Dem.pt))=q from by
         have:=HP.out
         rw [HK.out] at this
         rcases hq12 with rfl|rfl <;> exact this)
        have E:((xq != 1)=false)∨((xq != 1)=true/\(xq != 2)=false):=by
         rcases hq12 with rfl|rfl
         ·exact .inl rfl
         exact .inr ⟨rfl,rfl⟩
        have HLT:=hid (show ((l.take j).map Dm.Dem.pt).length=j from by rw[AtE,AuF];omega)
        obtain ⟨i0',hi,hz0,hz1,hz2⟩:=info_parts fT
        have RN:=hid (show aF.Row (w3.alloc (.cells #[.int .i64 (k:Int)] 3)) (some ⟨w3.heap.size,0,none⟩) [(k:Int)] from Lies.Row.fresh (E:=aF) w3 [(k:Int)] 3)
        have XN:=hid ((AuN w3).alloc (ArT _) (.cells #[.int .i64 (k:Int)] 3))
        have HO2:=hid (aA HO.out XN.out)
        have B4:=hid (Y.out.trans (XN.out.mono Y.out.size))
        have hsz4:=B4.out.size
        clear hq12 HP HK
        generalize (l.take j).map Dm.Dem.pt=Ps at HO2 HTK HLT
        rcases E with E|⟨E,E'⟩
        ·go_wp2_with fail
         refine CI.out.mono ?_;rintro e w' ⟨rfl,rfl⟩
         go_wp2_with (at_builtin;refine aG aF _ rfl (.tmp 40) (.tmp 43) 64 rfl w1.heap.size 3 i0' _ 8 Tryz.underlying64 hi hz0 hz1 hz2 rfl (.slice Ap j cp) j (aF.all Ps) rfl HO2.out (some ⟨w'.heap.size,0,none⟩) 1 1 [(k:Int)] rfl (by decide) rfl RN.out (by omega) (by omega) hsz4 ?_;intro g1 cap1 w7 ho hg hgr;have HO7:=hid ho;have B7:=hid (B4.out.grown hg hsz4 λk hk=>(HO2.out.lt k hk).1);clear ho hg hgr)
         go_roundw
         case rel=>exact ⟨j+1,_,_,by omega,by go_num,rfl,by rw[HTK.out,aF.all_append];exact HO7.out,HT.out,B7.out⟩
         case measure=>simp [intOf];omega
        go_wp2_with fail
        refine CI.out.mono ?_;rintro e w' ⟨rfl,rfl⟩
        go_wp2_with (at_builtin;refine aG aF _ rfl (.tmp 40) (.tmp 43) 64 rfl w1.heap.size 3 i0' _ 8 Tryz.underlying64 hi hz0 hz1 hz2 rfl (.slice Ap j cp) j (aF.all Ps) rfl HO2.out (some ⟨w'.heap.size,0,none⟩) 1 1 [(k:Int)] rfl (by decide) rfl RN.out (by omega) (by omega) hsz4 ?_;intro g1 cap1 w7 ho hg hgr;have HO7:=hid ho;have B7:=hid (B4.out.grown hg hsz4 λk hk=>(HO2.out.lt k hk).1);clear ho hg hgr)
        go_roundw
        case rel=>exact ⟨j+1,_,_,by omega,by go_num,rfl,by rw[HTK.out,aF.all_append];exact HO7.out,HT.out,B7.out⟩
        case measure=>simp [intOf];omega
       have E:(xq != 1)=true:=by rw[AuG];omega
       have E':(xq != 2)=true:=by rw[AuG];omega
       have HF:=hid (show false=q from by
        have:=HP.out
        rw [HK.out,ArW.2 (show xq≠1 by omega),ArW.2 (show xq≠2 by omega)] at this
        exact this)
       clear hq12 HP HK
       go_wp2_with fail
       refine CI.out.mono ?_;rintro e w' ⟨rfl,rfl⟩
       go_wp2
       go_ret
       exact ⟨by rw[<-HF.out] <;> rfl,FY.out⟩
  obtain rfl:j=l.length:=by omega
  have d1:decide ((l.length:Int)<(l.length:Int))=false:=aB (by omega)
  have HF:=hid (show Tb.rises (l.map Dm.Dem.pt)=q from by rw[List.drop_length] at hp;exact hp)
  rw [List.take_length] at ho
  obtain ⟨-,A3,c3,e,-,hr⟩:=Lies.Row.of_own ho
  cases e
  have CR:=hid (kK Ap cp (l.map Dm.Dem.pt) wr hr (by rw[AtE];exact hl))
  rw [HF.out,AtE] at CR
  clear hp hb ho hr
  go_wp2_with fail
  refine CR.out.mono ?_;rintro e w' ⟨rfl,hb'⟩
  have HB2:=hid (HB.out.trans (hb'.mono HB.out.size))
  clear hb'
  go_wp2
  go_ret
  exact ⟨rfl,HB2.out⟩
 --]
end Go.Proofs.YtncphjodaklleaaGreat
