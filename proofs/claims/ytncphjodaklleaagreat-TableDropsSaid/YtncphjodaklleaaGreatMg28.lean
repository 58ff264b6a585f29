/-
 Texts of this claim, merged: TbPrA, TbPrB, TbPrC.
-/
import Derived.Test.YtncphjodaklleaaGreatMg05
import Derived.Test.YtncphjodaklleaaGreatMg12
import Derived.Test.YtncphjodaklleaaGreatMg13
import Derived.Test.YtncphjodaklleaaGreatMg15
import Derived.Test.YtncphjodaklleaaGreatMg17
import Derived.Test.YtncphjodaklleaaGreatMg19
import Derived.Test.YtncphjodaklleaaGreatMg20
import Derived.Test.YtncphjodaklleaaGreatMg21
import Derived.Test.YtncphjodaklleaaGreatMg23
import Derived.Test.YtncphjodaklleaaGreatMg26
import Derived.Test.YtncphjodaklleaaGreatMg27
import Derived.BigQuiet
import Derived.Deep.CutRange
import Derived.Deep.RegionHeld3
import Derived.Lib.IndexLaws
import Derived.Lib.MinMax
set_option maxHeartbeats 16000000
set_option maxRecDepth 100000
namespace Go.Proofs.YtncphjodaklleaaGreat
open Lib (hid)
open Go.RowKit
theorem ptbRises_any (A:Option Addr) (c:Nat) (l:List Int) (w:World) (h:LNum.Row w A l) (hl:l.length≤1000000) :
 Calls Tryz.prog 139 #[.slice A l.length c] w (OneIs (.bool (Tb.rises l)) w):=by
 --[
 have B0:=hid (Below.refl w.heap.size w)
 have HR:=hid h
 generalize hq:Tb.rises l=q
 have HQ:=hid (show Tb.ups (fun i=>decide (l.getD (i - 1) 0<l.getD i 0)) 1 l.length=q from hq)
 clear h hq
 go_enter Tryz.func139,Tryz.ntmps139
 go_wp2_with fail
 go_loopw [3] (fun v w'=>∃ j:Nat,j≤l.length∧v=.int .i64 ((j:Int)+1)∧Tb.ups (fun i=>decide (l.getD (i - 1) 0<l.getD i 0)) (j+1) l.length=q∧Below w.heap.size w w') (fun v _=>l.length+1 - (intOf v).toNat)
 case atStart=>exact ⟨0,Nat.zero_le _,rfl,HQ.out,B0.out⟩
 case round =>
  clear HQ
  obtain ⟨i,hj,rfl,hp,hb⟩:=hrel
  have HB:=hid hb
  have HP:=hid hp
  clear hp
  obtain ⟨j,hij⟩:∃ j,j=i+1:=⟨_,rfl⟩
  have hji:(i:Int)+1=(j:Int):=by omega
  rw [hji]
  rw [← hij] at HP
  by_cases hlt:j<l.length
  ·have hx:=List.getElem?_eq_getElem hlt
   have hy:=List.getElem?_eq_getElem (show i<l.length by omega)
   have d1:decide ((j:Int)<(l.length:Int))=true:=dec_t (by omega)
   have j0:(0:Int)≤(j:Int):=Int.natCast_nonneg j
   have j1:(j:Int)<(l.length:Int):=by omega
   have e1:(j:Int) - 1=(i:Int):=by omega
   have w1:IntKind.i64.wrap ((j:Int) - 1)=(i:Int):=by rw[IntWalk.i64_in _ (by omega)];omega
   have w2:IntKind.i64.wrap (i:Int)=(i:Int):=IntWalk.i64_in _ (by omega)
   have i0:(0:Int)≤(i:Int):=Int.natCast_nonneg i
   have i1:(i:Int)<(l.length:Int):=by omega
   have HP2:=hid (show (decide (l.getD i 0<l.getD j 0) && Tb.ups (fun i=>decide (l.getD (i - 1) 0<l.getD i 0)) (j+1) l.length)=q from by
    have:=HP.out
    rw [Tb.ups_step _ hlt,show j - 1=i by omega] at this
    exact this)
   obtain ⟨b,o,rfl,hbb,on,on'⟩:=(HR.out.below rfl hb).two hx hy
   rw [Tb.getD_at hx,Tb.getD_at hy] at HP2
   generalize l[j]=x at hx on HP2
   generalize l[i]=y at hy on' HP2
   have c0:=num_on on
   have c1:=num_on on'
   rw [show j * LNum.m=j from Nat.mul_one _] at c0
   rw [show i * LNum.m=i from Nat.mul_one _] at c1
   clear hb hx hy on on' HP hij hlt hji
   by_cases h2:y<x
   ·have D3:decide (x≤y)=false:=dec_f (by omega)
    have HT:=hid (show Tb.ups (fun i=>decide (l.getD (i - 1) 0<l.getD i 0)) (j+1) l.length=q from by have:=HP2.out;rw[decide_eq_true h2,Bool.true_and] at this;exact this)
    clear h2 HP2
    go_upto_region 4 with fail
    go_quiet (fail)
    go_wp2_with fail
    go_roundw
    case rel=>exact ⟨j,by omega,by first | rfl | go_num,HT.out,below_drewN HB.out _⟩
    case measure=>simp [intOf];omega
   ·have D3:decide (x≤y)=true:=dec_t (by omega)
    have HF:=hid (show false=q from by have:=HP2.out;rw[decide_eq_false h2,Bool.false_and] at this;exact this)
    clear h2 HP2
    go_upto_region 4 with fail
    go_quiet (fail)
    go_wp2_with fail
    go_ret
    exact ⟨by rw[← HF.out] <;> rfl,below_drewN HB.out _⟩
  ·have d1:decide ((j:Int)<(l.length:Int))=false:=dec_f (by omega)
   have HF:=hid (show true=q from by have:=HP.out;rw[Tb.ups_over _ (by omega)] at this;exact this)
   clear hb HP hij hji
   go_wp2_with fail
   go_ret
   exact ⟨by rw[← HF.out] <;> rfl,HB.out⟩
 --]
theorem ptbRisesN_any (A:Option Addr) (c:Nat) (l:List Pl.Nm) (w:World) (h:LTx.Row w A l) (hl:l.length≤1000000) :
 Calls Tryz.prog 51 #[.slice A l.length c] w (OneIs (.bool (Tb.risesN l)) w):=by
 --[
 have B0:=hid (Below.refl w.heap.size w)
 have HR:=hid h
 generalize hq:Tb.risesN l=q
 have HQ:=hid (show Tb.ups (fun i=>decide (l.getD (i - 1) []<l.getD i [])) 1 l.length=q from hq)
 clear h hq
 go_enter Tryz.func51,Tryz.ntmps51
 go_wp2_with fail
 go_loopw [3] (fun v w'=>∃ j:Nat,j≤l.length∧v=.int .i64 ((j:Int)+1)∧Tb.ups (fun i=>decide (l.getD (i - 1) []<l.getD i [])) (j+1) l.length=q∧Below w.heap.size w w') (fun v _=>l.length+1 - (intOf v).toNat)
 case atStart=>exact ⟨0,Nat.zero_le _,rfl,HQ.out,B0.out⟩
 case round =>
  clear HQ
  obtain ⟨i,hj,rfl,hp,hb⟩:=hrel
  have HB:=hid hb
  have HP:=hid hp
  clear hp
  obtain ⟨j,hij⟩:∃ j,j=i+1:=⟨_,rfl⟩
  have hji:(i:Int)+1=(j:Int):=by omega
  rw [hji]
  rw [← hij] at HP
  by_cases hlt:j<l.length
  ·have hx:=List.getElem?_eq_getElem hlt
   have hy:=List.getElem?_eq_getElem (show i<l.length by omega)
   have d1:decide ((j:Int)<(l.length:Int))=true:=dec_t (by omega)
   have j0:(0:Int)≤(j:Int):=Int.natCast_nonneg j
   have j1:(j:Int)<(l.length:Int):=by omega
   have e1:(j:Int) - 1=(i:Int):=by omega
   have w1:IntKind.i64.wrap ((j:Int) - 1)=(i:Int):=by rw[IntWalk.i64_in _ (by omega)];omega
   have w2:IntKind.i64.wrap (i:Int)=(i:Int):=IntWalk.i64_in _ (by omega)
   have i0:(0:Int)≤(i:Int):=Int.natCast_nonneg i
   have i1:(i:Int)<(l.length:Int):=by omega
   have HP2:=hid (show (decide (l.getD i []<l.getD j []) && Tb.ups (fun i=>decide (l.getD (i - 1) []<l.getD i [])) (j+1) l.length)=q from by
    have:=HP.out
    rw [Tb.ups_step _ hlt,show j - 1=i by omega] at this
    exact this)
   obtain ⟨b,o,rfl,hbb,on,on'⟩:=(HR.out.below rfl hb).two hx hy
   rw [Tb.getD_at hx,Tb.getD_at hy] at HP2
   generalize l[j]=x at hx on HP2
   generalize l[i]=y at hy on' HP2
   have c0:=tx_on on
   have c1:=tx_on on'
   rw [show j * LTx.m=j from Nat.mul_one _] at c0
   rw [show i * LTx.m=i from Nat.mul_one _] at c1
   clear hb hx hy on on' HP hij hlt hji
   by_cases h2:y<x
   ·have D3:Op.bytesLess (txt x).toList (txt y).toList=false:=by rw[str_lt];exact decide_eq_false (List.lt_asymm h2)
    have D4:((txt x).toList == (txt y).toList)=false:=by rw[toList_txt,toList_txt];exact beq_eq_false_iff_ne.2 fun e=>List.lt_irrefl x (by rw[← e] at h2;exact h2)
    have HT:=hid (show Tb.ups (fun i=>decide (l.getD (i - 1) []<l.getD i [])) (j+1) l.length=q from by have:=HP2.out;rw[decide_eq_true h2,Bool.true_and] at this;exact this)
    clear h2 HP2
    go_upto_region 4 with fail
    go_quiet (fail)
    go_wp2_with fail
    go_roundw
    case rel=>exact ⟨j,by omega,by first | rfl | go_num,HT.out,below_drewN HB.out _⟩
    case measure=>simp [intOf];omega
   ·obtain ⟨z1,z2,D3,D4,D5⟩:∃ z1 z2,Op.bytesLess (txt x).toList (txt y).toList=z1∧((txt x).toList == (txt y).toList)=z2∧(z1=true∨z2=true):=⟨_,_,rfl,rfl,by rw[str_lt,toList_txt,toList_txt,decide_eq_true_iff,beq_iff_eq];exact List.le_iff_lt_or_eq.1 (List.not_lt.1 h2)⟩
    have HF:=hid (show false=q from by have:=HP2.out;rw[decide_eq_false h2,Bool.false_and] at this;exact this)
    clear h2 HP2
    rcases z1 with _ | _ <;> rcases z2 with _ | _ <;> first | (exfalso;revert D5;decide;done) | skip
    all_goals clear D5
    all_goals go_upto_region 4 with fail
    all_goals go_quiet (fail)
    all_goals go_wp2_with fail
    all_goals go_ret
    all_goals exact ⟨by rw[← HF.out] <;> rfl,below_drewN HB.out _⟩
  ·have d1:decide ((j:Int)<(l.length:Int))=false:=dec_f (by omega)
   have HF:=hid (show true=q from by have:=HP.out;rw[Tb.ups_over _ (by omega)] at this;exact this)
   clear hb HP hij hji
   go_wp2_with fail
   go_ret
   exact ⟨by rw[← HF.out] <;> rfl,HB.out⟩
 --]
theorem pIndexInts (F:FuncId) (eg:∀ args w,(callFunc F args).run Tryz.prog w=.ok (.enter F args) w) (A:Option Addr) (c:Nat) (L:List Int) (q:Int→Bool) (g:Nat) (w:World) (h:LNum.Row w A L) (hl:L.length≤1000000)
 (hq:∀ x∈L,∀ W,Below w.heap.size w W→Calls Tryz.prog F #[.int .i64 x,.pointer (some ⟨g,0,none⟩)] W fun e w'=>e=.returned (.bool (q x))∧Below W.heap.size W w') :
 Calls Tryz.prog 164 #[.slice A L.length c,.func (.func F) #[] #[.pointer (some ⟨g,0,none⟩)]] w (HitIs (L.any q) w):=by
 --[
 have IA:=hid h
 have CL:=hid hq
 clear h hq
 go_enter Tryz.func164,Tryz.ntmps164
 go_wp2
 go_loopg [5,8] L.length (fun gg _ s8 wr=>∃ k:Nat,k≤L.length∧L.length - k≤gg∧s8=.int .i64 k∧Below w.heap.size w wr∧∀ j<k,∀ t,L[j]? = some t→q t=false)
 case atStart=>exact ⟨0,Nat.zero_le _,by omega,rfl,Below.refl _ w,fun j hj=>absurd hj (Nat.not_lt_zero _)⟩
 case round =>
  obtain ⟨k,hk,hgg,rfl,hB,h0⟩:=hrel
  have HB:=hid hB
  have H0:=hid h0
  clear hB h0
  by_cases hlt:k<L.length
  ·have d1:decide ((k:Int)<(L.length:Int))=true:=dec_t (by omega)
   have hx:=List.getElem?_eq_getElem hlt
   obtain ⟨b,o,rfl,hb,on⟩:=(IA.out.below rfl HB.out).at hlt
   have CX:=hid (CL.out _ (List.getElem_mem hlt) wr HB.out)
   generalize L[k]=x at hx on CX
   have a0:=num_on on
   rw [show k * LNum.m=k from Nat.mul_one _] at a0
   have HX:=hid hx
   clear on hx
   cases h1:q x with
   | true =>
     rw [h1] at CX
     have P:=hid (show L.any q=true from List.any_eq_true.2 ⟨x,List.mem_of_getElem? HX.out,h1⟩)
     clear h1
     go_wp2_with (refine CX.out.mono ?_;rintro e w' ⟨rfl,hb'⟩;have HB2:=hid (HB.out.trans (hb'.mono HB.out.size));clear hb')
     go_ret
     exact ⟨(k:Int),rfl,(fun _=>dec_t (by omega)),(fun h=>absurd (P.out.symm.trans h) (by decide)),HB2.out⟩
   | false =>
     rw [h1] at CX
     have N:=hid (fun j (hj:j<k+1) t (ht:L[j]? = some t)=>(show q t=false from by
      by_cases hjk:j=k
      ·subst hjk
       rw [HX.out] at ht
       cases ht
       exact h1
      ·exact H0.out j (by omega) t ht))
     clear h1
     go_wp2_with (refine CX.out.mono ?_;rintro e w' ⟨rfl,hb'⟩;have HB2:=hid (HB.out.trans (hb'.mono HB.out.size));clear hb')
     go_roundg (L.length - (k+1))
     case measure=>omega
     case rel=>exact ⟨k+1,by omega,by omega,by go_num,HB2.out,N.out⟩
  ·obtain rfl:k=L.length:=by omega
   have P:=hid (show L.any q=false from by
    rw [List.any_eq_false]
    intro x hx
    obtain ⟨j,hj,rfl⟩:=List.getElem_of_mem hx
    rw [H0.out j hj _ (List.getElem?_eq_getElem hj)]
    decide)
   go_wp2
   go_ret
   exact ⟨-1,rfl,(fun h=>absurd (P.out.symm.trans h) (by decide)),(fun _=>rfl),HB.out⟩
 --]
theorem pHasInts (F:FuncId) (eg:∀ args w,(callFunc F args).run Tryz.prog w=.ok (.enter F args) w) (A:Option Addr) (c:Nat) (L:List Int) (q:Int→Bool) (g:Nat) (w:World) (h:LNum.Row w A L) (hl:L.length≤1000000)
 (hq:∀ x∈L,∀ W,Below w.heap.size w W→Calls Tryz.prog F #[.int .i64 x,.pointer (some ⟨g,0,none⟩)] W fun e w'=>e=.returned (.bool (q x))∧Below W.heap.size W w') :
 Calls Tryz.prog 141 #[.slice A L.length c,.func (.func F) #[] #[.pointer (some ⟨g,0,none⟩)]] w (OneIs (.bool (L.any q)) w):=by
 --[
 have HC:=hid (pIndexInts F eg A c L q g w h hl hq)
 clear h hq
 generalize L.any q=z at HC ⊢
 go_enter Tryz.func141,Tryz.ntmps141
 go_wp2_with fail
 refine HC.out.mono ?_;rintro e w' ⟨i,rfl,h1,h2,hb'⟩
 have HB:=hid hb'
 clear hb' HC
 cases z with
 | true =>
   have D:=h1 rfl
   clear h1 h2
   go_wp2_with fail
   go_ret
   exact ⟨rfl,HB.out⟩
 | false =>
   obtain rfl:=h2 rfl
   clear h1 h2
   go_wp2_with fail
   go_ret
   exact ⟨rfl,HB.out⟩
 --]
theorem pIndexNames (F:FuncId) (eg:∀ args w,(callFunc F args).run Tryz.prog w=.ok (.enter F args) w) (A:Option Addr) (c:Nat) (L:List Pl.Nm) (q:Pl.Nm→Bool) (w:World) (h:LTx.Row w A L) (hl:L.length≤1000000)
 (hq:∀ x∈L,∀ W,Below w.heap.size w W→Calls Tryz.prog F #[.string (txt x)] W fun e w'=>e=.returned (.bool (q x))∧Below W.heap.size W w') :
 Calls Tryz.prog 91 #[.slice A L.length c,.func (.func F) #[] #[]] w (HitIs (L.any q) w):=by
 --[
 have IA:=hid h
 have CL:=hid hq
 clear h hq
 go_enter Tryz.func91,Tryz.ntmps91
 go_wp2
 go_loopg [5,8] L.length (fun gg _ s8 wr=>∃ k:Nat,k≤L.length∧L.length - k≤gg∧s8=.int .i64 k∧Below w.heap.size w wr∧∀ j<k,∀ t,L[j]? = some t→q t=false)
 case atStart=>exact ⟨0,Nat.zero_le _,by omega,rfl,Below.refl _ w,fun j hj=>absurd hj (Nat.not_lt_zero _)⟩
 case round =>
  obtain ⟨k,hk,hgg,rfl,hB,h0⟩:=hrel
  have HB:=hid hB
  have H0:=hid h0
  clear hB h0
  by_cases hlt:k<L.length
  ·have d1:decide ((k:Int)<(L.length:Int))=true:=dec_t (by omega)
   have hx:=List.getElem?_eq_getElem hlt
   obtain ⟨b,o,rfl,hb,on⟩:=(IA.out.below rfl HB.out).at hlt
   have CX:=hid (CL.out _ (List.getElem_mem hlt) wr HB.out)
   generalize L[k]=x at hx on CX
   have a0:=tx_on on
   rw [show k * LTx.m=k from Nat.mul_one _] at a0
   have HX:=hid hx
   clear on hx
   cases h1:q x with
   | true =>
     rw [h1] at CX
     have P:=hid (show L.any q=true from List.any_eq_true.2 ⟨x,List.mem_of_getElem? HX.out,h1⟩)
     clear h1
     go_wp2_with (refine CX.out.mono ?_;rintro e w' ⟨rfl,hb'⟩;have HB2:=hid (HB.out.trans (hb'.mono HB.out.size));clear hb')
     go_ret
     exact ⟨(k:Int),rfl,(fun _=>dec_t (by omega)),(fun h=>absurd (P.out.symm.trans h) (by decide)),HB2.out⟩
   | false =>
     rw [h1] at CX
     have N:=hid (fun j (hj:j<k+1) t (ht:L[j]? = some t)=>(show q t=false from by
      by_cases hjk:j=k
      ·subst hjk
       rw [HX.out] at ht
       cases ht
       exact h1
      ·exact H0.out j (by omega) t ht))
     clear h1
     go_wp2_with (refine CX.out.mono ?_;rintro e w' ⟨rfl,hb'⟩;have HB2:=hid (HB.out.trans (hb'.mono HB.out.size));clear hb')
     go_roundg (L.length - (k+1))
     case measure=>omega
     case rel=>exact ⟨k+1,by omega,by omega,by go_num,HB2.out,N.out⟩
  ·obtain rfl:k=L.length:=by omega
   have P:=hid (show L.any q=false from by
    rw [List.any_eq_false]
    intro x hx
    obtain ⟨j,hj,rfl⟩:=List.getElem_of_mem hx
    rw [H0.out j hj _ (List.getElem?_eq_getElem hj)]
    decide)
   go_wp2
   go_ret
   exact ⟨-1,rfl,(fun h=>absurd (P.out.symm.trans h) (by decide)),(fun _=>rfl),HB.out⟩
 --]
theorem pHasNames (F:FuncId) (eg:∀ args w,(callFunc F args).run Tryz.prog w=.ok (.enter F args) w) (A:Option Addr) (c:Nat) (L:List Pl.Nm) (q:Pl.Nm→Bool) (w:World) (h:LTx.Row w A L) (hl:L.length≤1000000)
 (hq:∀ x∈L,∀ W,Below w.heap.size w W→Calls Tryz.prog F #[.string (txt x)] W fun e w'=>e=.returned (.bool (q x))∧Below W.heap.size W w') :
 Calls Tryz.prog 52 #[.slice A L.length c,.func (.func F) #[] #[]] w (OneIs (.bool (L.any q)) w):=by
 --[
 have HC:=hid (pIndexNames F eg A c L q w h hl hq)
 clear h hq
 generalize L.any q=z at HC ⊢
 go_enter Tryz.func52,Tryz.ntmps52
 go_wp2_with fail
 refine HC.out.mono ?_;rintro e w' ⟨i,rfl,h1,h2,hb'⟩
 have HB:=hid hb'
 clear hb' HC
 cases z with
 | true =>
   have D:=h1 rfl
   clear h1 h2
   go_wp2_with fail
   go_ret
   exact ⟨rfl,HB.out⟩
 | false =>
   obtain rfl:=h2 rfl
   clear h1 h2
   go_wp2_with fail
   go_ret
   exact ⟨rfl,HB.out⟩
 --]
theorem pIndexSteps (F:FuncId) (eg:∀ args w,(callFunc F args).run Tryz.prog w=.ok (.enter F args) w) (A:Option Addr) (c:Nat) (L:List Wk.Stp) (q:Wk.Stp→Bool) (g:Nat) (w:World) (h:LStp.Row w A L) (hl:L.length≤1000000)
 (hq:∀ x∈L,∀ W,Below w.heap.size w W→Calls Tryz.prog F #[stpV x,.pointer (some ⟨g,0,none⟩)] W fun e w'=>e=.returned (.bool (q x))∧Below W.heap.size W w') :
 Calls Tryz.prog 163 #[.slice A L.length c,.func (.func F) #[] #[.pointer (some ⟨g,0,none⟩)]] w (HitIs (L.any q) w):=by
 --[
 have IA:=hid h
 have CL:=hid hq
 clear h hq
 go_enter Tryz.func163,Tryz.ntmps163
 go_wp2
 go_loopg [5,8] L.length (fun gg _ s8 wr=>∃ k:Nat,k≤L.length∧L.length - k≤gg∧s8=.int .i64 k∧Below w.heap.size w wr∧∀ j<k,∀ t,L[j]? = some t→q t=false)
 case atStart=>exact ⟨0,Nat.zero_le _,by omega,rfl,Below.refl _ w,fun j hj=>absurd hj (Nat.not_lt_zero _)⟩
 case round =>
  obtain ⟨k,hk,hgg,rfl,hB,h0⟩:=hrel
  have HB:=hid hB
  have H0:=hid h0
  clear hB h0
  by_cases hlt:k<L.length
  ·have d1:decide ((k:Int)<(L.length:Int))=true:=dec_t (by omega)
   have hx:=List.getElem?_eq_getElem hlt
   obtain ⟨b,o,rfl,hb,on⟩:=(IA.out.below rfl HB.out).at hlt
   have CX:=hid (CL.out _ (List.getElem_mem hlt) wr HB.out)
   generalize L[k]=x at hx on CX
   obtain ⟨a0,a1,a2⟩:=stp_on on
   rw [show k * LStp.m=k * 3 from rfl] at a0 a1 a2
   have HX:=hid hx
   clear on hx
   cases h1:q x with
   | true =>
     rw [h1] at CX
     have P:=hid (show L.any q=true from List.any_eq_true.2 ⟨x,List.mem_of_getElem? HX.out,h1⟩)
     clear h1
     go_wp2_with (refine CX.out.mono ?_;rintro e w' ⟨rfl,hb'⟩;have HB2:=hid (HB.out.trans (hb'.mono HB.out.size));clear hb')
     go_ret
     exact ⟨(k:Int),rfl,(fun _=>dec_t (by omega)),(fun h=>absurd (P.out.symm.trans h) (by decide)),HB2.out⟩
   | false =>
     rw [h1] at CX
     have N:=hid (fun j (hj:j<k+1) t (ht:L[j]? = some t)=>(show q t=false from by
      by_cases hjk:j=k
      ·subst hjk
       rw [HX.out] at ht
       cases ht
       exact h1
      ·exact H0.out j (by omega) t ht))
     clear h1
     go_wp2_with (refine CX.out.mono ?_;rintro e w' ⟨rfl,hb'⟩;have HB2:=hid (HB.out.trans (hb'.mono HB.out.size));clear hb')
     go_roundg (L.length - (k+1))
     case measure=>omega
     case rel=>exact ⟨k+1,by omega,by omega,by go_num,HB2.out,N.out⟩
  ·obtain rfl:k=L.length:=by omega
   have P:=hid (show L.any q=false from by
    rw [List.any_eq_false]
    intro x hx
    obtain ⟨j,hj,rfl⟩:=List.getElem_of_mem hx
    rw [H0.out j hj _ (List.getElem?_eq_getElem hj)]
    decide)
   go_wp2
   go_ret
   exact ⟨-1,rfl,(fun h=>absurd (P.out.symm.trans h) (by decide)),(fun _=>rfl),HB.out⟩
 --]
theorem pHasSteps (F:FuncId) (eg:∀ args w,(callFunc F args).run Tryz.prog w=.ok (.enter F args) w) (A:Option Addr) (c:Nat) (L:List Wk.Stp) (q:Wk.Stp→Bool) (g:Nat) (w:World) (h:LStp.Row w A L) (hl:L.length≤1000000)
 (hq:∀ x∈L,∀ W,Below w.heap.size w W→Calls Tryz.prog F #[stpV x,.pointer (some ⟨g,0,none⟩)] W fun e w'=>e=.returned (.bool (q x))∧Below W.heap.size W w') :
 Calls Tryz.prog 137 #[.slice A L.length c,.func (.func F) #[] #[.pointer (some ⟨g,0,none⟩)]] w (OneIs (.bool (L.any q)) w):=by
 --[
 have HC:=hid (pIndexSteps F eg A c L q g w h hl hq)
 clear h hq
 generalize L.any q=z at HC ⊢
 go_enter Tryz.func137,Tryz.ntmps137
 go_wp2_with fail
 refine HC.out.mono ?_;rintro e w' ⟨i,rfl,h1,h2,hb'⟩
 have HB:=hid hb'
 clear hb' HC
 cases z with
 | true =>
   have D:=h1 rfl
   clear h1 h2
   go_wp2_with fail
   go_ret
   exact ⟨rfl,HB.out⟩
 | false =>
   obtain rfl:=h2 rfl
   clear h1 h2
   go_wp2_with fail
   go_ret
   exact ⟨rfl,HB.out⟩
 --]
theorem ptbIs (x n:Int) (w:World):Calls Tryz.prog 94 #[.int .i64 x,.int .i64 n] w fun e w'=>e=.returned (.bool (Tb.isIn x n))∧w'=w:=by
 --[
 show Calls Tryz.prog 94 #[.int .i64 x,.int .i64 n] w fun e w'=>e=.returned (.bool (decide (0≤x) && decide (x<n)))∧w'=w
 generalize hz1:decide (0≤x)=z1
 generalize hz2:decide (x<n)=z2
 go_enter Tryz.func94,Tryz.ntmps94
 cases z1 with
 | false =>
   go_wp2_with fail
   go_ret
   exact ⟨rfl,rfl⟩
 | true =>
   go_wp2_with fail
   go_ret
   exact ⟨rfl,rfl⟩
 --]
theorem ptbWithin (x n:Int) (w:World):Calls Tryz.prog 26 #[.int .i64 x,.int .i64 n] w fun e w'=>e=.returned (.bool (Tb.upTo x n))∧w'=w:=by
 --[
 show Calls Tryz.prog 26 #[.int .i64 x,.int .i64 n] w fun e w'=>e=.returned (.bool (decide (0≤x) && decide (x≤n)))∧w'=w
 generalize hz1:decide (0≤x)=z1
 generalize hz2:decide (x≤n)=z2
 go_enter Tryz.func26,Tryz.ntmps26
 cases z1 with
 | false =>
   go_wp2_with fail
   go_ret
   exact ⟨rfl,rfl⟩
 | true =>
   go_wp2_with fail
   go_ret
   exact ⟨rfl,rfl⟩
 --]
theorem ptbThrough (x:Wk.Stp) (pt:Bool) (w:World):Calls Tryz.prog 136 #[stpV x,.bool pt] w (OneIs (.bool (Tb.throughOk pt x)) w):=by
 --[
 obtain ⟨xs,xf,xt⟩:=x
 have XX:=(Below.refl w.heap.size w).alloc (Nat.le_refl _) (stpO ⟨xs,xf,xt⟩)
 have X:=hid XX
 have RS:=heap_alloc_new w (stpO ⟨xs,xf,xt⟩)
 have c1:=cell_of_row _ w.heap.size 1 _ _ _ RS
 have c2:=cell_of_row _ w.heap.size 2 _ _ _ RS
 have V:=hid (show Tb.throughOk pt ⟨xs,xf,xt⟩ = ((min xf xt == 0) && decide (0<max xf xt) && decide (max xf xt≤if pt=true then 2 else 1)) from rfl)
 clear XX RS
 rw [V.out]
 clear V
 show Calls Tryz.prog 136 #[.agg #[.int .i64 xs,.int .i64 xf,.int .i64 xt],.bool pt] w _
 cases pt with
 | true =>
   rw [if_pos rfl]
   generalize hz1:(min xf xt == 0)=z1
   generalize hz2:decide (0<max xf xt)=z2
   generalize hz3:decide (max xf xt≤2)=z3
   go_enter Tryz.func136,Tryz.ntmps136
   cases z1 with
   | false =>
     go_wp2_with fail
     go_ret
     exact ⟨rfl,X.out⟩
   | true =>
     cases z2 with
     | false =>
       go_wp2_with fail
       go_ret
       exact ⟨rfl,X.out⟩
     | true =>
       go_wp2_with fail
       go_ret
       exact ⟨rfl,X.out⟩
 | false =>
   rw [if_neg (by decide)]
   generalize hz1:(min xf xt == 0)=z1
   generalize hz2:decide (0<max xf xt)=z2
   generalize hz3:decide (max xf xt≤1)=z3
   go_enter Tryz.func136,Tryz.ntmps136
   cases z1 with
   | false =>
     go_wp2_with fail
     go_ret
     exact ⟨rfl,X.out⟩
   | true =>
     cases z2 with
     | false =>
       go_wp2_with fail
       go_ret
       exact ⟨rfl,X.out⟩
     | true =>
       go_wp2_with fail
       go_ret
       exact ⟨rfl,X.out⟩
 --]
theorem ptbNoName (x:Pl.Nm) (w:World) (hx:x.length≤1000000):Calls Tryz.prog 53 #[.string (txt x)] w fun e w'=>e=.returned (.bool (!Fig.nameB x))∧Below w.heap.size w w':=by
 --[
 have C:=hid (name_t x w hx (Fig.nameB x) rfl)
 generalize Fig.nameB x=z at C ⊢
 have B0:=hid (Below.refl w.heap.size w)
 go_enter Tryz.func53,Tryz.ntmps53
 go_wp2_with fail
 refine C.out.mono ?_;rintro e w' ⟨rfl,rfl⟩
 go_wp2_with fail
 go_ret
 exact ⟨rfl,B0.out⟩
 --]
theorem ptbNamed_any (A:Option Addr) (c:Nat) (l:List Pl.Nm) (w:World) (h:LTx.Row w A l) (hl:l.length≤1000000) (hn:∀ x∈l,x.length≤1000000) :
 Calls Tryz.prog 25 #[.slice A l.length c] w (OneIs (.bool (Tb.namesOk l)) w):=by
 --[
 have C1:=hid (ptbRisesN_any A c l w h hl)
 have C2:=hid (fun W (hW:Below w.heap.size w W)=>pHasNames 53 (enters_of Tryz.func53 (by kernel_rfl) rfl) A c l (fun x=>!Fig.nameB x) W (h.below rfl hW) hl (fun x hx W' _=>ptbNoName x W' (hn x hx)))
 rw [← Tb.named_eq l]
 generalize Tb.risesN l=z1 at C1 ⊢
 generalize (l.any fun x=>!Fig.nameB x)=z2 at C2 ⊢
 clear h hn
 go_enter Tryz.func25,Tryz.ntmps25
 go_wp2_with fail
 refine C1.out.mono ?_;rintro e w1 ⟨rfl,hb1⟩
 have B1:=hid hb1
 clear hb1 C1
 cases z1 with
 | false =>
   go_wp2_with fail
   go_ret
   exact ⟨rfl,B1.out⟩
 | true =>
   go_wp2_with fail
   refine (C2.out _ B1.out).mono ?_;rintro e w2 ⟨rfl,hb2⟩
   have B2:=hid (B1.out.trans (hb2.mono B1.out.size))
   clear hb2 C2
   go_wp2_with fail
   go_ret
   exact ⟨rfl,B2.out⟩
 --]
theorem ptbNoPlace (x n:Int) (g:Nat) (w:World) (hg:w.cell? ⟨g,0,none⟩ = some (.int .i64 n)):Calls Tryz.prog 142 #[.int .i64 x,.pointer (some ⟨g,0,none⟩)] w fun e w'=>e=.returned (.bool (!Tb.isIn x n))∧Below w.heap.size w w':=by
 --[
 have C:=hid (ptbIs x n w)
 generalize Tb.isIn x n=z at C ⊢
 have B0:=hid (Below.refl w.heap.size w)
 go_enter Tryz.func142,Tryz.ntmps142
 go_wp2_with fail
 refine C.out.mono ?_;rintro e w' ⟨rfl,rfl⟩
 go_wp2_with fail
 go_ret
 exact ⟨rfl,B0.out⟩
 --]
theorem ptbPlaces_any (A:Option Addr) (c:Nat) (l:List Int) (n:Int) (w:World) (h:LNum.Row w A l) (hl:l.length≤1000000) :
 Calls Tryz.prog 99 #[.slice A l.length c,.int .i64 n] w (OneIs (.bool (Tb.risingOk l n)) w):=by
 --[
 have XX:=(Below.refl w.heap.size w).alloc (Nat.le_refl _) (.cells #[.int .i64 n] 3)
 have X:=hid XX
 have RP:=hid (heap_alloc_new w (.cells #[.int .i64 n] 3))
 have hsz:w.heap.size<(w.alloc (.cells #[.int .i64 n] 3)).heap.size:=by simp
 have C1:=hid (ptbRises_any A c l _ (h.below rfl XX) hl)
 have C2:=hid (fun W (hW:Below (w.alloc (.cells #[.int .i64 n] 3)).heap.size (w.alloc (.cells #[.int .i64 n] 3)) W)=>pHasInts 142 (enters_of Tryz.func142 (by kernel_rfl) rfl) A c l (fun x=>!Tb.isIn x n) w.heap.size W ((h.below rfl XX).below rfl hW) hl (fun x _ W' hW'=>ptbNoPlace x n w.heap.size W'
  (cell_of_row _ _ 0 _ _ _ ((hW'.block _ (Nat.lt_of_lt_of_le hsz hW.size)).trans ((hW.block _ hsz).trans (heap_alloc_new w _))))))
 rw [← Tb.places_eq l n]
 generalize Tb.rises l=z1 at C1 ⊢
 generalize (l.any fun x=>!Tb.isIn x n)=z2 at C2 ⊢
 clear h XX hsz
 go_enter Tryz.func99,Tryz.ntmps99
 go_upto_region 1 with fail
 generalize w.alloc (.cells #[.int .i64 n] 3)=w1 at X RP C1 C2 ⊢
 generalize w.heap.size=g at RP C2 ⊢
 go_wp2_with fail
 refine C1.out.mono ?_;rintro e w2 ⟨rfl,hb1⟩
 have B1:=hid hb1
 have F1:=hid (X.out.trans (hb1.mono X.out.size))
 clear hb1 C1
 cases z1 with
 | false =>
   go_wp2_with fail
   go_ret
   exact ⟨rfl,F1.out⟩
 | true =>
   go_wp2_with fail
   refine (C2.out _ B1.out).mono ?_;rintro e w3 ⟨rfl,hb2⟩
   have F2:=hid (F1.out.trans (hb2.mono F1.out.size))
   clear hb2 C2
   go_wp2_with fail
   go_ret
   exact ⟨rfl,F2.out⟩
 --]
theorem ptbIsIn (x:Wk.Stp) (A':Option Addr) (c':Nat) (M:List Wk.Stp) (g:Nat) (w:World) (hg:w.cell? ⟨g,0,none⟩ = some (.slice A' M.length c')) (hlt:g<w.heap.size) (hM:LStp.Row w A' M) (hl:M.length≤1000000):Calls Tryz.prog 138 #[stpV x,.pointer (some ⟨g,0,none⟩)] w fun e w'=>e=.returned (.bool (Wk.within M x.s))∧Below w.heap.size w w':=by
 --[
 obtain ⟨a,b,d⟩:=x
 have XX:=(Below.refl w.heap.size w).alloc (Nat.le_refl _) (stpO ⟨a,b,d⟩)
 have X:=hid XX
 have C:=hid (pwWithin_any A' c' M a _ (hM.below rfl XX) hl)
 clear hM XX
 show Calls Tryz.prog 138 #[.agg #[.int .i64 a,.int .i64 b,.int .i64 d],.pointer (some ⟨g,0,none⟩)] w fun e w'=>e=.returned (.bool (Wk.within M a))∧Below w.heap.size w w'
 generalize Wk.within M a=z at C ⊢
 go_enter Tryz.func138,Tryz.ntmps138
 go_wp2_with fail
 refine C.out.mono ?_;rintro e w2 ⟨rfl,hb2⟩
 have XF:=hid (X.out.trans (hb2.mono X.out.size))
 clear hb2 C X
 go_wp2_with fail
 go_ret
 exact ⟨rfl,XF.out⟩
 --]
theorem ptbApart_any (A:Option Addr) (c:Nat) (L:List Wk.Stp) (A':Option Addr) (c':Nat) (M:List Wk.Stp) (w:World) (h:LStp.Row w A L) (hl:L.length≤1000000) (h':LStp.Row w A' M) (hl':M.length≤1000000) :
 Calls Tryz.prog 96 #[.slice A L.length c,.slice A' M.length c'] w (OneIs (.bool (!L.any fun x=>Wk.within M x.s)) w):=by
 --[
 have XX:=(Below.refl w.heap.size w).alloc (Nat.le_refl _) (.cells #[.slice A' M.length c'] 62)
 have X:=hid XX
 have hsz:w.heap.size<(w.alloc (.cells #[.slice A' M.length c'] 62)).heap.size:=by simp
 have C:=hid (pHasSteps 138 (enters_of Tryz.func138 (by kernel_rfl) rfl) A c L (fun x=>Wk.within M x.s) w.heap.size _ (h.below rfl XX) hl (fun x _ W hW=>ptbIsIn x A' c' M w.heap.size W
  (cell_of_row _ _ 0 _ _ _ ((hW.block _ hsz).trans (heap_alloc_new w _))) (Nat.lt_of_lt_of_le hsz hW.size) ((h'.below rfl XX).below rfl hW) hl'))
 generalize (L.any fun x=>Wk.within M x.s)=z at C ⊢
 clear h h' XX hsz
 go_enter Tryz.func96,Tryz.ntmps96
 go_wp2_with fail
 refine C.out.mono ?_;rintro e w1 ⟨rfl,hb1⟩
 have F1:=hid (X.out.trans (hb1.mono X.out.size))
 clear hb1 C X
 go_wp2_with fail
 go_ret
 exact ⟨rfl,F1.out⟩
 --]
theorem ptbSized_any (m:TableM) (w:World):Calls Tryz.prog 24 #[tbV m] w (OneIs (.bool (Tb.sizesOk m.t)) w):=by
 --[
 have XX:=(Below.refl w.heap.size w).alloc (Nat.le_refl _) (tbO m)
 have X:=hid XX
 obtain ⟨⟨p0,p1,p2,p3,p4,p5⟩,gx⟩:=tb_row (heap_alloc_new w (tbO m))
 have V:=hid (show Tb.sizesOk m.t=(decide ((m.t.names.length:Int)≤24) && ((m.t.points.length:Int) == (m.t.names.length:Int)) && decide ((m.t.sigs.length:Int)≤12) && decide ((m.t.routes.length:Int)≤30)) from rfl)
 rw [V.out]
 have hy1:decide (m.t.names.length≤24)=decide ((m.t.names.length:Int)≤24):=by congr 1;rw[eq_iff_iff];omega
 have hy3:decide (m.t.sigs.length≤12)=decide ((m.t.sigs.length:Int)≤12):=by congr 1;rw[eq_iff_iff];omega
 have hy4:decide (m.t.routes.length≤30)=decide ((m.t.routes.length:Int)≤30):=by congr 1;rw[eq_iff_iff];omega
 generalize hz1:decide ((m.t.names.length:Int)≤24)=z1 at hy1 ⊢
 generalize hz2:((m.t.points.length:Int) == (m.t.names.length:Int))=z2
 generalize hz3:decide ((m.t.sigs.length:Int)≤12)=z3 at hy3 ⊢
 generalize hz4:decide ((m.t.routes.length:Int)≤30)=z4 at hy4 ⊢
 clear XX V
 go_enter Tryz.func24,Tryz.ntmps24
 go_upto_region 1 with fail
 generalize w.alloc (tbO m)=w1 at X p0 p1 p2 p3 p4 p5 gx ⊢
 generalize w.heap.size=g at p0 p1 p2 p3 p4 p5 gx ⊢
 cases z1 with
 | false =>
   go_wp2_with fail
   go_ret
   exact ⟨rfl,X.out⟩
 | true =>
 cases z2 with
 | false =>
   go_wp2_with fail
   go_ret
   exact ⟨rfl,X.out⟩
 | true =>
 cases z3 with
 | false =>
   go_wp2_with fail
   go_ret
   exact ⟨rfl,X.out⟩
 | true =>
   go_wp2_with fail
   go_ret
   exact ⟨rfl,X.out⟩
 --]
theorem ptbAsks_any (m:TableM) (A:Option Addr) (c:Nat) (d:List Dm.Dem) (A':Option Addr) (c':Nat) (l:List Wk.Stp) (w:World) (h1:LBo.Row w m.A1 m.t.points) (h:LDem.Row w A d) (hl:d.length≤1000000) (h':LStp.Row w A' l) (hl':l.length≤1000000) (hin:∀ x∈l,0≤x.s∧x.s<(m.t.points.length:Int)) :
 Calls Tryz.prog 98 #[tbV m,.slice A d.length c,.slice A' l.length c'] w (OneIs (.bool (Tb.asksOk m.t.points d l)) w):=by
 --[
 have XX:=(Below.refl w.heap.size w).alloc (Nat.le_refl _) (tbO m)
 have X:=hid XX
 have HD:=hid (h.below rfl XX)
 have HR:=hid (h'.below rfl XX)
 have HP1:=hid (h1.below rfl XX)
 have RP:=hid (heap_alloc_new w (tbO m))
 have HIN:=hid hin
 generalize hq:Tb.asksOk m.t.points d l=q
 have HQ:=hid (show (l.drop 0).all (Tb.askOk m.t.points d)=q from hq)
 clear h h1 h' hq XX hin
 go_enter Tryz.func98,Tryz.ntmps98
 go_upto_region 1 with fail
 generalize w.alloc (tbO m)=w1 at X HD HR HP1 RP ⊢
 generalize hg:w.heap.size=g at RP ⊢
 have gl:=(tb_row RP.out).2
 have KB:=hid (fun W (hW:Below w1.heap.size w1 W)=>(tb_row ((hW.block _ gl).trans RP.out)).1.2.1)
 have B0:=hid (Below.refl w1.heap.size w1)
 clear gl hg
 go_wp2_with fail
 go_loopw [8,11] (fun _ v w'=>∃ j:Nat,j≤l.length∧v=.int .i64 j∧(l.drop j).all (Tb.askOk m.t.points d)=q∧Below w1.heap.size w1 w') (fun _ v _=>l.length - (intOf v).toNat)
 case atStart=>exact ⟨0,Nat.zero_le _,rfl,HQ.out,B0.out⟩
 case round =>
  clear HQ
  obtain ⟨j,hj,rfl,hp,hb⟩:=hrel
  have HB:=hid (X.out.trans (hb.mono X.out.size))
  have HB1:=hid hb
  by_cases hlt:j<l.length
  ·have d1:decide ((j:Int)<(l.length:Int))=true:=dec_t (by omega)
   have j0:(0:Int)≤(j:Int):=Int.natCast_nonneg j
   have j1:(j:Int)<(l.length:Int):=by omega
   obtain ⟨hx0,hx1⟩:=HIN.out _ (List.getElem_mem hlt)
   rw [List.drop_eq_getElem_cons hlt,List.all_cons] at hp
   obtain ⟨b,o,rfl,hbb,on⟩:=(HR.out.below rfl hb).at hlt
   generalize l[j]=x at hp on hx0 hx1
   obtain ⟨xs,xf,xt⟩:=x
   obtain ⟨c0,c1,c2⟩:=stp_on on
   rw [show j * LStp.m=j * 3 from rfl] at c0 c1 c2
   simp only at c0 c1 c2 hx0 hx1
   obtain ⟨k,rfl⟩:∃ k:Nat,xs=(k:Int):=⟨xs.toNat,by omega⟩
   have hkp:k<m.t.points.length:=by omega
   have k0:(0:Int)≤(k:Int):=Int.natCast_nonneg k
   have k1:(k:Int)<(m.t.points.length:Int):=by omega
   have HK:=hid (show Tb.askOk m.t.points d ⟨(k:Int),xf,xt⟩ = (!m.t.points.getD k false || (Dm.posOf d (k:Int) == max xf xt)) from by
    unfold Tb.askOk
    rw [Int.toNat_natCast])
   have HP:=hid hp
   have Y0:=(Below.refl wr.heap.size wr).alloc (Nat.le_refl _) (stpO ⟨(k:Int),xf,xt⟩)
   have RY:=hid (heap_alloc_new wr (stpO ⟨(k:Int),xf,xt⟩))
   have Y:=hid (hb.trans (Y0.mono hb.size))
   clear hb hp on hbb Y0
   go_upto_region 4 with fail
   generalize wr.alloc (stpO ⟨(k:Int),xf,xt⟩)=w3 at RY Y ⊢
   generalize wr.heap.size=gy at RY ⊢
   have gly:=(Array.getElem?_eq_some_iff.1 RY.out).1
   obtain ⟨bp,op,hA1,hbp,cp⟩:=bo_at (HP1.out.below rfl Y.out) hkp
   have KS:=hid (fun W (hW:Below w3.heap.size w3 W)=>show W.cell? ⟨g,1,none⟩ = some (.slice (some ⟨bp,op,none⟩) m.t.points.length m.c1)∧W.cell? ⟨bp,op+k,none⟩ = some (.bool (m.t.points.getD k false))∧W.cell? ⟨gy,0,none⟩ = some (.int .i64 k)∧W.cell? ⟨gy,1,none⟩ = some (.int .i64 xf)∧W.cell? ⟨gy,2,none⟩ = some (.int .i64 xt) from
    ⟨by have:=KB.out _ (Y.out.trans (hW.mono Y.out.size));rw[hA1] at this;exact this,(hW.cell (p:=⟨bp,op+k,none⟩) hbp).trans cp,cell_of_row _ gy 0 _ _ _ ((hW.block _ gly).trans RY.out),cell_of_row _ gy 1 _ _ _ ((hW.block _ gly).trans RY.out),cell_of_row _ gy 2 _ _ _ ((hW.block _ gly).trans RY.out)⟩)
   have CP:=hid (fun W (hW:Below w3.heap.size w3 W)=>(pdPosition_any A c d (k:Int) W ((HD.out.below rfl Y.out).below rfl hW) hl).mono fun e w' h=>(⟨h.1,hW.trans (h.2.mono hW.size)⟩:e=.returned (.int .i64 (Dm.posOf d (k:Int)))∧Below w3.heap.size w3 w'))
   generalize Dm.posOf d (k:Int)=ps at HK CP
   generalize m.t.points.getD k false=pt at KS HK
   have HB3:=hid Y.out
   clear hA1 hbp cp gly
   cases pt with
   | false =>
     have HT:=hid (show (l.drop (j+1)).all (Tb.askOk m.t.points d)=q from by have:=HP.out;rw[HK.out] at this;exact this)
     clear HP HK
     refine region_in_text (fun W=>Below w3.heap.size w3 W) (by kernel_rfl) (by kernel_rfl) (Below.refl w3.heap.size w3).drew ?_
     repeat (first
      | (refine InText.dead ?_ ?_;(focus rfl);(try simp only [Act.put,List.setIfInBounds_toArray,List.set_cons_zero,List.set_cons_succ]))
      | (refine InText.val (v:=?_) ?_ ?_ ?_;rotate_left;(focus rfl);(focus (intro W hW;obtain ⟨s0,s1,s2,s3,s4⟩:=KS.out W hW;go_simp;(try with_reducible rfl);done));(try simp only [Act.put,List.setIfInBounds_toArray,List.set_cons_zero,List.set_cons_succ]))
      | (refine InText.call (v:=?_) (f:=?_) (args:=?_) ?_ ?_ ?_ ?_;rotate_left 3;(focus rfl);(focus (intro W hW;go_simp;constructor;with_reducible rfl;with_reducible rfl));(focus exact CP.out);(try simp only [Act.put,List.setIfInBounds_toArray,List.set_cons_zero,List.set_cons_succ])))
     refine InText.end_ fun w4 hb4=>?_
     have HB4:=hid (HB3.out.trans (hb4.mono HB3.out.size))
     clear hb4
     go_wp2_with fail
     go_roundw
     case rel=>exact ⟨j+1,by omega,by go_num,HT.out,HB4.out⟩
     case measure=>simp [intOf];omega
   | true =>
     obtain ⟨z,hz⟩:∃ z,(ps != max xf xt)=z:=⟨_,rfl⟩
     have HK2:=hid (show Tb.askOk m.t.points d ⟨(k:Int),xf,xt⟩ = !z from by rw[HK.out,← hz];unfold bne;rw[Bool.not_not];rfl)
     refine region_in_text (fun W=>Below w3.heap.size w3 W) (by kernel_rfl) (by kernel_rfl) (Below.refl w3.heap.size w3).drew ?_
     repeat (first
      | (refine InText.dead ?_ ?_;(focus rfl);(try simp only [Act.put,List.setIfInBounds_toArray,List.set_cons_zero,List.set_cons_succ]))
      | (refine InText.val (v:=?_) ?_ ?_ ?_;rotate_left;(focus rfl);(focus (intro W hW;obtain ⟨s0,s1,s2,s3,s4⟩:=KS.out W hW;go_simp;(try with_reducible rfl);done));(try simp only [Act.put,List.setIfInBounds_toArray,List.set_cons_zero,List.set_cons_succ]))
      | (refine InText.call (v:=?_) (f:=?_) (args:=?_) ?_ ?_ ?_ ?_;rotate_left 3;(focus rfl);(focus (intro W hW;go_simp;constructor;with_reducible rfl;with_reducible rfl));(focus exact CP.out);(try simp only [Act.put,List.setIfInBounds_toArray,List.set_cons_zero,List.set_cons_succ])))
     refine InText.end_ fun w4 hb4=>?_
     have HB4:=hid (HB3.out.trans (hb4.mono HB3.out.size))
     have HF4:=hid (X.out.trans (HB4.out.mono X.out.size))
     clear hb4
     cases z with
     | false =>
       have HT:=hid (show (l.drop (j+1)).all (Tb.askOk m.t.points d)=q from by have:=HP.out;rw[HK2.out] at this;exact this)
       clear HP HK HK2
       go_wp2_with fail
       go_roundw
       case rel=>exact ⟨j+1,by omega,by go_num,HT.out,HB4.out⟩
       case measure=>simp [intOf];omega
     | true =>
       have HF:=hid (show false=q from by have:=HP.out;rw[HK2.out] at this;exact this)
       clear HP HK HK2
       go_wp2_with fail
       go_ret
       exact ⟨by rw[← HF.out] <;> rfl,HF4.out⟩
  ·obtain rfl:j=l.length:=by omega
   have d1:decide ((l.length:Int)<(l.length:Int))=false:=dec_f (by omega)
   have HF:=hid (show true=q from by rw[List.drop_length] at hp;exact hp)
   clear hp hb
   go_wp2_with fail
   go_ret
   exact ⟨by rw[← HF.out] <;> rfl,HB.out⟩
 --]
theorem ptbAsked_any (m:TableM) (A:Option Addr) (c:Nat) (l:List Dm.Dem) (w:World) (h1:LBo.Row w m.A1 m.t.points) (hpn:m.t.points.length=m.t.names.length) (h:LDem.Row w A l) (hl:l.length≤1000000) :
 Calls Tryz.prog 97 #[tbV m,.slice A l.length c] w (OneIs (.bool (Tb.demandsOk m.t.points l)) w):=by
 --[
 have XX:=(Below.refl w.heap.size w).alloc (Nat.le_refl _) (tbO m)
 have X:=hid XX
 have HD:=hid (h.below rfl XX)
 have HP1:=hid (h1.below rfl XX)
 have RP:=hid (heap_alloc_new w (tbO m))
 rw [← Tb.asked_eq]
 generalize hq:(l.all (Tb.askedOk m.t.points m.t.points.length) && Tb.rises (l.map Dm.Dem.pt))=q
 have HQ:=hid (show ((l.drop 0).all (Tb.askedOk m.t.points m.t.points.length) && Tb.rises (l.map Dm.Dem.pt))=q from hq)
 have HPN:=hid hpn
 clear h h1 hq XX hpn
 go_enter Tryz.func97,Tryz.ntmps97
 go_upto_region 1 with fail
 generalize w.alloc (tbO m)=w1 at X HD HP1 RP ⊢
 generalize hg:w.heap.size=g at RP ⊢
 have gl:=(tb_row RP.out).2
 have KB:=hid (fun W (hW:Below w1.heap.size w1 W)=>And.intro (tb_row ((hW.block _ gl).trans RP.out)).1.1 (tb_row ((hW.block _ gl).trans RP.out)).1.2.1)
 have B0:=hid (Below.refl w1.heap.size w1)
 have O0:=hid (World.ownsRow_nil w1 w1.heap.size 3 LNum.m)
 clear gl hg
 go_wp2_with fail
 go_loopw [5,7,10] (fun v5 _ v w'=>∃ (j:Nat) (Ap:Option Addr) (cp:Nat),j≤l.length∧v=.int .i64 j∧v5=.slice Ap j cp∧w'.ownsRow w1.heap.size 3 LNum.m (.slice Ap j cp) j (LNum.all ((l.take j).map Dm.Dem.pt))∧((l.drop j).all (Tb.askedOk m.t.points m.t.points.length) && Tb.rises (l.map Dm.Dem.pt))=q∧Below w1.heap.size w1 w') (fun _ _ v _=>l.length - (intOf v).toNat)
 case atStart=>exact ⟨0,none,0,Nat.zero_le _,rfl,rfl,O0.out,HQ.out,B0.out⟩
 case round =>
  clear HQ O0
  obtain ⟨j,Ap,cp,hj,rfl,rfl,ho,hp,hb⟩:=hrel
  have HB:=hid (X.out.trans (hb.mono X.out.size))
  have HB1:=hid hb
  by_cases hlt:j<l.length
  ·have d1 : decide ((j:Int)<(l.length:Int))=true:=dec_t (by omega)
   have j0:(0:Int)≤(j:Int):=Int.natCast_nonneg j
   have j1:(j:Int)<(l.length:Int):=by omega
   have HTK:=hid (show (l.take (j+1)).map Dm.Dem.pt=(l.take j).map Dm.Dem.pt++[l[j].pt] from by
    rw [List.take_succ_eq_append_getElem hlt,List.map_append];rfl)
   rw [List.drop_eq_getElem_cons hlt,List.all_cons] at hp
   obtain ⟨b,o,rfl,hbb,on⟩:=(HD.out.below rfl hb).at hlt
   generalize l[j]=x at hp on HTK
   obtain ⟨xp,xq⟩:=x
   obtain ⟨c0,c1⟩:=dem_on on
   rw [show j * LDem.m=j * 2 from rfl] at c0 c1
   simp only at c0 c1 HTK
   have HP:=hid hp
   have HK:=hid (show Tb.askedOk m.t.points m.t.points.length ⟨xp,xq⟩ = (Tb.isIn xp m.t.names.length && m.t.points.getD xp.toNat false && ((xq == 1) || (xq == 2))) from by rw[← HPN.out];rfl)
   have Y0:=(Below.refl wr.heap.size wr).alloc (Nat.le_refl _) (.cells #[.int .i64 xp,.int .i64 xq] 125)
   have RY:=hid (heap_alloc_new wr (.cells #[.int .i64 xp,.int .i64 xq] 125))
   have Y:=hid (hb.trans (Y0.mono hb.size))
   have HO:=hid (ownsRow_below ho Y0)
   clear hb hp on hbb Y0 ho
   go_upto_region 5 with fail
   generalize wr.alloc (.cells #[.int .i64 xp,.int .i64 xq] 125)=w3 at RY Y HO ⊢
   generalize wr.heap.size=gy at RY ⊢
   have FY:=hid (X.out.trans (Y.out.mono X.out.size))
   have gly:=(Array.getElem?_eq_some_iff.1 RY.out).1
   have y0:=cell_of_row _ gy 0 _ _ _ RY.out
   have y1:=cell_of_row _ gy 1 _ _ _ RY.out
   obtain ⟨kb0,kb1⟩:=KB.out _ Y.out
   clear c0 c1
   have CI:=hid (ptbIs xp m.t.names.length w3)
   cases hz:Tb.isIn xp m.t.names.length with
   | false =>
     rw [hz] at CI HK
     have HF:=hid (show false=q from by have:=HP.out;rw[HK.out] at this;exact this)
     clear HP HK hz
     go_wp2_with fail
     refine CI.out.mono ?_;rintro e w' ⟨rfl,rfl⟩
     go_wp2_with fail
     go_ret
     exact ⟨by rw[← HF.out] <;> rfl,FY.out⟩
   | true =>
     rw [hz] at CI HK
     obtain ⟨h0,h1⟩:=Tb.isIn_iff.1 hz
     obtain ⟨k,rfl⟩:∃ k:Nat,xp=(k:Int):=⟨xp.toNat,by omega⟩
     have hkp:k<m.t.points.length:=by have:=HPN.out;omega
     have k0:(0:Int)≤(k:Int):=Int.natCast_nonneg k
     have k1:(k:Int)<(m.t.points.length:Int):=by omega
     obtain ⟨bp,op,hA1,hbp,cp1⟩:=bo_at (HP1.out.below rfl Y.out) hkp
     rw [hA1] at kb1
     rw [Int.toNat_natCast] at HK
     generalize m.t.points.getD k false=pt at cp1 HK
     clear hz h0 h1 hA1
     cases pt with
     | false =>
       have HF:=hid (show false=q from by have:=HP.out;rw[HK.out] at this;exact this)
       clear HP HK
       go_wp2_with fail
       refine CI.out.mono ?_;rintro e w' ⟨rfl,rfl⟩
       go_wp2_with fail
       go_ret
       exact ⟨by rw[← HF.out] <;> rfl,FY.out⟩
     | true =>
       by_cases hq12:xq=1∨xq=2
       ·have HT:=hid (show ((l.drop (j+1)).all (Tb.askedOk m.t.points m.t.points.length) && Tb.rises (l.map Dm.Dem.pt))=q from by
         have:=HP.out
         rw [HK.out] at this
         rcases hq12 with rfl | rfl <;> exact this)
        have E:((xq != 1)=false)∨((xq != 1)=true∧(xq != 2)=false):=by
         rcases hq12 with rfl | rfl
         ·exact .inl rfl
         ·exact .inr ⟨rfl,rfl⟩
        have HLT:=hid (show ((l.take j).map Dm.Dem.pt).length=j from by rw[List.length_map,List.length_take];omega)
        obtain ⟨i0',hi,hz0,hz1,hz2⟩:=info_parts infoNum
        have RN:=hid (show LNum.Row (w3.alloc (.cells #[.int .i64 (k:Int)] 3)) (some ⟨w3.heap.size,0,none⟩) [(k:Int)] from Lies.Row.fresh (E:=LNum) w3 [(k:Int)] 3)
        have XN:=hid ((Below.refl w3.heap.size w3).alloc (Nat.le_refl _) (.cells #[.int .i64 (k:Int)] 3))
        have HO2:=hid (ownsRow_below HO.out XN.out)
        have B4:=hid (Y.out.trans (XN.out.mono Y.out.size))
        have hsz4:=B4.out.size
        clear hq12 HP HK
        generalize (l.take j).map Dm.Dem.pt=Ps at HO2 HTK HLT
        rcases E with E | ⟨E,E'⟩
        ·go_wp2_with fail
         refine CI.out.mono ?_;rintro e w' ⟨rfl,rfl⟩
         go_wp2_with (at_builtin;refine wpList_append_row LNum _ rfl (.tmp 40) (.tmp 43) 64 rfl w1.heap.size 3 i0' _ 8 Tryz.underlying64 hi hz0 hz1 hz2 rfl (.slice Ap j cp) j (LNum.all Ps) rfl HO2.out (some ⟨w'.heap.size,0,none⟩) 1 1 [(k:Int)] rfl (by decide) rfl RN.out (by omega) (by omega) hsz4 ?_;intro g1 cap1 w7 ho hg hgr;have HO7:=hid ho;have B7:=hid (B4.out.grown hg hsz4 fun k hk=>(HO2.out.lt k hk).1);clear ho hg hgr)
         go_roundw
         case rel=>exact ⟨j+1,_,_,by omega,by go_num,rfl,by rw[HTK.out,LNum.all_append];exact HO7.out,HT.out,B7.out⟩
         case measure=>simp [intOf];omega
        ·go_wp2_with fail
         refine CI.out.mono ?_;rintro e w' ⟨rfl,rfl⟩
         go_wp2_with (at_builtin;refine wpList_append_row LNum _ rfl (.tmp 40) (.tmp 43) 64 rfl w1.heap.size 3 i0' _ 8 Tryz.underlying64 hi hz0 hz1 hz2 rfl (.slice Ap j cp) j (LNum.all Ps) rfl HO2.out (some ⟨w'.heap.size,0,none⟩) 1 1 [(k:Int)] rfl (by decide) rfl RN.out (by omega) (by omega) hsz4 ?_;intro g1 cap1 w7 ho hg hgr;have HO7:=hid ho;have B7:=hid (B4.out.grown hg hsz4 fun k hk=>(HO2.out.lt k hk).1);clear ho hg hgr)
         go_roundw
         case rel=>exact ⟨j+1,_,_,by omega,by go_num,rfl,by rw[HTK.out,LNum.all_append];exact HO7.out,HT.out,B7.out⟩
         case measure=>simp [intOf];omega
       ·have E:(xq != 1)=true:=by rw[bne_iff_ne];omega
        have E':(xq != 2)=true:=by rw[bne_iff_ne];omega
        have HF:=hid (show false=q from by
         have:=HP.out
         rw [HK.out,beq_eq_false_iff_ne.2 (show xq≠1 by omega),beq_eq_false_iff_ne.2 (show xq≠2 by omega)] at this
         exact this)
        clear hq12 HP HK
        go_wp2_with fail
        refine CI.out.mono ?_;rintro e w' ⟨rfl,rfl⟩
        go_wp2_with fail
        go_ret
        exact ⟨by rw[← HF.out] <;> rfl,FY.out⟩
  ·obtain rfl:j=l.length:=by omega
   have d1:decide ((l.length:Int)<(l.length:Int))=false:=dec_f (by omega)
   have HF:=hid (show Tb.rises (l.map Dm.Dem.pt)=q from by rw[List.drop_length] at hp;exact hp)
   rw [List.take_length] at ho
   obtain ⟨-,A3,c3,e,-,hr⟩:=Lies.Row.of_own ho
   cases e
   have CR:=hid (ptbRises_any Ap cp (l.map Dm.Dem.pt) wr hr (by rw[List.length_map];exact hl))
   rw [HF.out,List.length_map] at CR
   clear hp hb ho hr
   go_wp2_with fail
   refine CR.out.mono ?_;rintro e w' ⟨rfl,hb'⟩
   have HB2:=hid (HB.out.trans (hb'.mono HB.out.size))
   clear hb'
   go_wp2_with fail
   go_ret
   exact ⟨rfl,HB2.out⟩
 --]
end Go.Proofs.YtncphjodaklleaaGreat
