/- Lemmas. -/
import Derived.Test.YtjofpclmbjpgjaaGreatMk16
import Derived.Lib.AppendZeros
set_option maxHeartbeats 16000000
set_option maxRecDepth 100000
namespace Go.Proofs.YtjofpclmbjpgjaaGreat
open Lib (hid)
open Go.RowKit
theorem cU (A:Option Addr) (c:Nat) (L:List Dm.Dem) (k:Int) (w:World) (h:aJ.Row w A L) (hl:L.length<=1000000) :
 Calls Tryz.prog 129 #[.slice A L.length c,.int .i64 k] w (OneIs (.int .i64 (Dm.posOf L k)) w):=by
 --[
 have B0:=hid (AtB w)
 have HR:=hid h
 generalize hq:Dm.posOf L k=q
 have HQ:=hid hq
 clear h hq
 go_enter Tryz.func129,Tryz.ntmps129
 go_wp2_with fail
 go_loopw [9] (λv w'=>∃ j:Nat,j<=L.length/\v=.int .i64 j/\Dm.posOf (L.drop j) k=q/\Below w.heap.size w w') (λv _=>L.length-(intOf v).toNat)
 case atStart=>exact⟨0,AsD _,rfl,by rw[List.drop_zero];exact HQ.out,B0.out⟩
 case round =>
  obtain⟨j,hj,rfl,hp,hb⟩:=hrel
  have HB:=hid hb
  by_cases hlt:j<L.length
  ·have hy:=ArN hlt
   obtain⟨b,o,rfl,hbb,on⟩:=(HR.out.below rfl hb).at hlt
   generalize L[j]=x at hy on
   obtain⟨c0,c1⟩:=eV on
   rw[show j*aJ.m=j*2 from rfl] at c0 c1
   rw[Dm.posOf_drop hy] at hp
   obtain⟨d1,i0,i1⟩:=ArK (show j<L.length by omega)
   have HP:=hid hp
   clear hb hy on hp
   obtain⟨p0,q0⟩:=x
   simp only at c0 c1
   have RX:=hid (AsW wr (.cells #[.int .i64 p0,.int .i64 q0] 138))
   have HX:=hid (HB.out.alloc HB.out.size (.cells #[.int .i64 p0,.int .i64 q0] 138))
   go_upto_region 4 with fail
   generalize wr.alloc (.cells #[.int .i64 p0,.int .i64 q0] 138)=w2 at RX HX ⊢
   generalize wr.heap.size=gx at RX ⊢
   clear c0 c1 hbb
   obtain⟨t0,t1⟩:=bM RX.out
   have gx2:=(ArL RX.out).1
   by_cases hk:p0=k
   ·have E:(p0 == k)=true:=by rw[beq_iff_eq];exact hk
    have HP2:=hid (show q0=q from by have:=HP.out;rwa [ArZ hk] at this)
    clear hk
    go_wp2
    go_ret
    exact⟨by rw[HP2.out] <;> rfl,HX.out⟩
   have E:(p0 == k)=false:=by rw[ArU];exact hk
   have HP2:=hid (show Dm.posOf (L.drop (j+1)) k=q from by have:=HP.out;rwa [ArY hk] at this)
   clear hk
   go_wp2
   go_roundw
   case rel=>exact⟨j+1,by omega,by go_num,HP2.out,HX.out⟩
   case measure=>simp[intOf];omega
  obtain rfl:j=L.length:=by omega
  have d1:decide ((L.length:Int)<(L.length:Int))=false:=aB (by omega)
  rw[List.drop_length] at hp
  have HP:=hid hp
  clear hb hp
  go_wp2
  go_ret
  exact⟨by rw[<-HP.out];rfl,HB.out⟩
 --]
theorem AoC (x:Dm.Dem) (k:Int) (g:Nat) (W:World) (hg:g<W.heap.size) (hc:W.cell? ⟨g,0,none⟩=some (.int .i64 k)) :
 Calls Tryz.prog 157 #[AbN x,.pointer (some ⟨g,0,none⟩)] W λe w'=>e=.returned (.bool (decide (k<=x.pt)))/\Below W.heap.size W w':=by
 --[
 obtain⟨a,b⟩:=x
 have hne:g≠W.heap.size:=by omega
 have X:=hid ((AtB W).alloc (ArR _) (kA ⟨a,b⟩))
 show Calls Tryz.prog 157 #[.agg #[.int .i64 a,.int .i64 b],.pointer (some ⟨g,0,none⟩)] W λe w'=>e=.returned (.bool (decide (k<=a)))/\Below W.heap.size W w'
 cases h1:decide (k<=a)
 ·go_enter Tryz.func157,Tryz.ntmps157
  go_wp2
  go_ret
  exact⟨rfl,X.out⟩
 ·go_enter Tryz.func157,Tryz.ntmps157
  go_wp2
  go_ret
  exact⟨rfl,X.out⟩
 --]
def Dm.opp (M:List Dm.Dem) (x:Dm.Dem):Bool:=decide (Dm.posOf M x.pt≠0) && decide (Dm.posOf M x.pt≠x.pos)
theorem AoD (x:Dm.Dem) (A:Option Addr) (c:Nat) (M:List Dm.Dem) (g:Nat) (W:World) (hg:g<W.heap.size) (hc:W.cell? ⟨g,0,none⟩=some (.slice A M.length c)) (hM:aJ.Row W A M) (hl:M.length<=1000000) :
 Calls Tryz.prog 173 #[AbN x,.pointer (some ⟨g,0,none⟩)] W λe w'=>e=.returned (.bool (Dm.opp M x))/\Below W.heap.size W w':=by
 --[
 obtain⟨a,b⟩:=x
 have hne:g≠W.heap.size:=by omega
 have XX:=(AtB W).alloc (ArR _) (.cells #[.int .i64 a,.int .i64 b] 138)
 have X:=hid XX
 have R:=hid (AsW W (.cells #[.int .i64 a,.int .i64 b] 138))
 have C:=hid (cU A c M a _ (hM.below rfl XX) hl)
 have E:Dm.opp M ⟨a,b⟩=(decide (Dm.posOf M a≠0) && decide (Dm.posOf M a≠b)):=rfl
 have hc2:(W.alloc (.cells #[.int .i64 a,.int .i64 b] 138)).cell? ⟨g,0,none⟩=some (.slice A M.length c):=(XX.cell (p:=⟨g,0,none⟩) hg).trans hc
 rw[E]
 clear E hc hM XX
 generalize Dm.posOf M a=n at C ⊢
 go_enter Tryz.func173,Tryz.ntmps173
 go_upto_region 1 with fail
 generalize W.alloc (.cells #[.int .i64 a,.int .i64 b] 138)=w1 at X R C hc2 ⊢
 generalize hg1:W.heap.size=g1 at R hne ⊢
 clear hg1
 obtain⟨t0,t1⟩:=bM R.out
 have gl:=(ArL R.out).1
 have K1:=hid (λW' (hW:Below w1.heap.size w1 W')=>(bM ((hW.block _ gl).trans R.out)).2)
 go_wp2_with fail
 refine C.out.mono ?_;rintro e w2 ⟨rfl,hb2⟩
 have k1:=K1.out _ hb2
 have XF:=hid (X.out.trans (hb2.mono X.out.size))
 clear hb2 t0 t1 hc2 C K1 X
 by_cases h0:n=0
 ·have E:(n != 0)=false:=by rw[bne_eq_false_iff_eq];exact h0
  have V:=hid (show (decide (n≠0) && decide (n≠b))=false from by rw[decide_eq_false (p:=n≠0) (λh=>h h0)];rfl)
  clear h0
  go_wp2
  go_ret
  exact⟨by rw[V.out] <;> rfl,XF.out⟩
 have E:(n != 0)=true:=by rw[AsV];exact h0
 by_cases h1:n=b
 ·have E2:(n != b)=false:=by rw[bne_eq_false_iff_eq];exact h1
  have V:=hid (show (decide (n≠0) && decide (n≠b))=false from by rw[decide_eq_false (p:=n≠b) (λh=>h h1),Bool.and_false])
  clear h0 h1
  go_wp2
  go_ret
  exact⟨by rw[V.out] <;> rfl,XF.out⟩
 ·have E2:(n != b)=true:=by rw[AsV];exact h1
  have V:=hid (show (decide (n≠0) && decide (n≠b))=true from by rw[decide_eq_true (p:=n≠b) h1,decide_eq_true (p:=n≠0) h0];rfl)
  clear h0 h1
  go_wp2
  go_ret
  exact⟨by rw[V.out] <;> rfl,XF.out⟩
 --]
def AeI (L:List Dm.Dem) (q:Dm.Dem->Bool) (w:World) (e:Ending) (w':World):Prop:=∃ i:Int,e=.returned (.int .i64 i)/\((i = -1/\∀ x∈L,q x=false)∨∃ k:Nat,∃ x,i=(k:Int)/\L[k]?=some x/\q x=true/\∀ j<k,∀ t,L[j]?=some t->q t=false)/\Below w.heap.size w w'
theorem AhE (A:Option Addr) (c:Nat) (L:List Dm.Dem) (q:Dm.Dem->Bool) (g:Nat) (w:World) (h:aJ.Row w A L) (hl:L.length<=1000000)
 (hq:∀ x W,Below w.heap.size w W->Calls Tryz.prog 157 #[AbN x,.pointer (some ⟨g,0,none⟩)] W λe w'=>e=.returned (.bool (q x))/\Below W.heap.size W w') :
 Calls Tryz.prog 156 #[.slice A L.length c,.func (.func 157) #[] #[.pointer (some ⟨g,0,none⟩)]] w (AeI L q w):=by
 --[
 have eg:∀ args w,(callFunc 157 args).run Tryz.prog w=.ok (.enter 157 args) w:=enters_of Tryz.func157 (by kernel_rfl) rfl
 have IA:=hid h
 have CL:=hid hq
 clear h hq
 go_enter Tryz.func156,Tryz.ntmps156
 go_wp2
 go_loopg [5,8] L.length (λgg _ s8 wr=>∃ k:Nat,k<=L.length/\L.length-k<=gg/\s8=.int .i64 k/\Below w.heap.size w wr/\∀ j<k,∀ t,L[j]?=some t->q t=false)
 case atStart=>exact⟨0,AsD _,by omega,rfl,Below.refl _ w,λj hj=>absurd hj (Nat.not_lt_zero _)⟩
 case round =>
  obtain⟨k,hk,hgg,rfl,hB,h0⟩:=hrel
  have HB:=hid hB
  have H0:=hid h0
  clear hB h0
  by_cases hlt:k<L.length
  ·have d1:decide ((k:Int)<(L.length:Int))=true:=aC (by omega)
   have hx:=ArN hlt
   obtain⟨b,o,rfl,hb,on⟩:=(IA.out.below rfl HB.out).at hlt
   generalize L[k]=x at hx on
   obtain⟨a0,a1⟩:=eV on
   rw[show k*aJ.m=k*2 from rfl] at a0 a1
   have HX:=hid hx
   have CX:=hid (CL.out x wr HB.out)
   clear on hx
   cases h1:q x with
   | true =>
     rw[h1] at CX
     have HQ:=hid h1
     clear h1
     go_wp2_with (go_at_fn 157;refine CX.out.mono ?_;rintro e w' ⟨rfl,hb'⟩;have HB2:=hid (HB.out.trans (hb'.mono HB.out.size));clear hb')
     go_ret
     exact⟨(k:Int),rfl,.inr ⟨k,x,rfl,HX.out,HQ.out,H0.out⟩,HB2.out⟩
   | false =>
     rw[h1] at CX
     have N:=hid (λj (hj:j<k+1) t (ht:L[j]?=some t)=>(show q t=false from by
      by_cases hjk:j=k
      ·subst hjk
       rw[HX.out] at ht
       cases ht
       exact h1
      exact H0.out j (by omega) t ht))
     clear h1
     go_wp2_with (go_at_fn 157;refine CX.out.mono ?_;rintro e w' ⟨rfl,hb'⟩;have HB2:=hid (HB.out.trans (hb'.mono HB.out.size));clear hb')
     go_roundg (L.length-(k+1))
     case measure=>omega
     case rel=>exact⟨k+1,by omega,by omega,by go_num,HB2.out,N.out⟩
  obtain rfl:k=L.length:=by omega
  go_wp2
  go_ret
  exact⟨-1,rfl,.inl ⟨rfl,λx hx=>by
   obtain⟨j,hj,rfl⟩:=List.getElem_of_mem hx
   exact H0.out j hj _ (ArN hj)⟩,HB.out⟩
 --]
theorem AhF (A:Option Addr) (c:Nat) (L:List Dm.Dem) (q:Dm.Dem->Bool) (g:Nat) (w:World) (h:aJ.Row w A L) (hl:L.length<=1000000)
 (hq:∀ x W,Below w.heap.size w W->Calls Tryz.prog 173 #[AbN x,.pointer (some ⟨g,0,none⟩)] W λe w'=>e=.returned (.bool (q x))/\Below W.heap.size W w') :
 Calls Tryz.prog 156 #[.slice A L.length c,.func (.func 173) #[] #[.pointer (some ⟨g,0,none⟩)]] w (AeI L q w):=by
 --[
 have eg:∀ args w,(callFunc 173 args).run Tryz.prog w=.ok (.enter 173 args) w:=enters_of Tryz.func173 (by kernel_rfl) rfl
 have IA:=hid h
 have CL:=hid hq
 clear h hq
 go_enter Tryz.func156,Tryz.ntmps156
 go_wp2
 go_loopg [5,8] L.length (λgg _ s8 wr=>∃ k:Nat,k<=L.length/\L.length-k<=gg/\s8=.int .i64 k/\Below w.heap.size w wr/\∀ j<k,∀ t,L[j]?=some t->q t=false)
 case atStart=>exact⟨0,AsD _,by omega,rfl,Below.refl _ w,λj hj=>absurd hj (Nat.not_lt_zero _)⟩
 case round =>
  obtain⟨k,hk,hgg,rfl,hB,h0⟩:=hrel
  have HB:=hid hB
  have H0:=hid h0
  clear hB h0
  by_cases hlt:k<L.length
  ·have d1:decide ((k:Int)<(L.length:Int))=true:=aC (by omega)
   have hx:=ArN hlt
   obtain⟨b,o,rfl,hb,on⟩:=(IA.out.below rfl HB.out).at hlt
   generalize L[k]=x at hx on
   obtain⟨a0,a1⟩:=eV on
   rw[show k*aJ.m=k*2 from rfl] at a0 a1
   have HX:=hid hx
   have CX:=hid (CL.out x wr HB.out)
   clear on hx
   cases h1:q x with
   | true =>
     rw[h1] at CX
     have HQ:=hid h1
     clear h1
     go_wp2_with (go_at_fn 173;refine CX.out.mono ?_;rintro e w' ⟨rfl,hb'⟩;have HB2:=hid (HB.out.trans (hb'.mono HB.out.size));clear hb')
     go_ret
     exact⟨(k:Int),rfl,.inr ⟨k,x,rfl,HX.out,HQ.out,H0.out⟩,HB2.out⟩
   | false =>
     rw[h1] at CX
     have N:=hid (λj (hj:j<k+1) t (ht:L[j]?=some t)=>(show q t=false from by
      by_cases hjk:j=k
      ·subst hjk
       rw[HX.out] at ht
       cases ht
       exact h1
      exact H0.out j (by omega) t ht))
     clear h1
     go_wp2_with (go_at_fn 173;refine CX.out.mono ?_;rintro e w' ⟨rfl,hb'⟩;have HB2:=hid (HB.out.trans (hb'.mono HB.out.size));clear hb')
     go_roundg (L.length-(k+1))
     case measure=>omega
     case rel=>exact⟨k+1,by omega,by omega,by go_num,HB2.out,N.out⟩
  obtain rfl:k=L.length:=by omega
  go_wp2
  go_ret
  exact⟨-1,rfl,.inl ⟨rfl,λx hx=>by
   obtain⟨j,hj,rfl⟩:=List.getElem_of_mem hx
   exact H0.out j hj _ (ArN hj)⟩,HB.out⟩
 --]
theorem AoE (A:Option Addr) (c:Nat) (L:List Dm.Dem) (q:Dm.Dem->Bool) (g:Nat) (w:World) (h:aJ.Row w A L) (hl:L.length<=1000000)
 (hq:∀ x W,Below w.heap.size w W->Calls Tryz.prog 173 #[AbN x,.pointer (some ⟨g,0,none⟩)] W λe w'=>e=.returned (.bool (q x))/\Below W.heap.size W w') :
 Calls Tryz.prog 172 #[.slice A L.length c,.func (.func 173) #[] #[.pointer (some ⟨g,0,none⟩)]] w (OneIs (.bool (L.any q)) w):=by
 --[
 have HC:=hid (AhF A c L q g w h hl hq)
 clear h hq
 go_enter Tryz.func172,Tryz.ntmps172
 go_wp2_with fail
 refine HC.out.mono ?_;rintro e w' ⟨i,rfl,h1,hb'⟩
 have HB:=hid hb'
 clear hb' HC
 rcases h1 with ⟨rfl,hn⟩|⟨k,x,rfl,hx,hqx,-⟩
 ·have V:=hid (show L.any q=false from by rw[List.any_eq_false];exact λx hx=>by rw[hn x hx];decide)
  clear hn
  go_wp2
  go_ret
  exact⟨by rw[V.out] <;> rfl,HB.out⟩
 ·have V:=hid (show L.any q=true from List.any_eq_true.2 ⟨x,ArX hx,hqx⟩)
  have D:decide (0<=(k:Int))=true:=aC (by omega)
  clear hx hqx
  go_wp2
  go_ret
  exact⟨by rw[V.out] <;> rfl,HB.out⟩
 --]
theorem iM (A:Option Addr) (c:Nat) (L:List Dm.Dem) (A':Option Addr) (c':Nat) (M:List Dm.Dem) (w:World) (h:aJ.Row w A L) (hl:L.length<=1000000) (h':aJ.Row w A' M) (hl':M.length<=1000000) :
 Calls Tryz.prog 146 #[.slice A L.length c,.slice A' M.length c'] w (OneIs (.bool (Dm.opposed L M)) w):=by
 --[
 have hb0:=(AtB w).alloc (ArR _) (.cells #[.slice A' M.length c'] 89)
 have hcell:(w.alloc (.cells #[.slice A' M.length c'] 89)).cell? ⟨w.heap.size,0,none⟩=some (.slice A' M.length c'):=AsY _ _ 0 _ _ _ (AsW w (.cells #[.slice A' M.length c'] 89))
 have hsz:w.heap.size<(w.alloc (.cells #[.slice A' M.length c'] 89)).heap.size:=by simp
 have HC:=hid (AoE A c L (Dm.opp M) w.heap.size _ (h.below rfl hb0) hl λx W hW=>AoD x A' c' M w.heap.size W (AsE hsz hW.size) ((hW.cell (p:=⟨w.heap.size,0,none⟩) hsz).trans hcell) ((h'.below rfl hb0).below rfl hW) hl')
 have HB0:=hid hb0
 have V:=hid (show L.any (Dm.opp M)=Dm.opposed L M from rfl)
 clear h h' hb0 hcell hsz
 go_enter Tryz.func146,Tryz.ntmps146
 go_wp2_with fail
 refine HC.out.mono ?_;rintro e w' ⟨rfl,hb'⟩
 go_wp2
 go_ret
 exact⟨by rw[V.out] <;> rfl,HB0.out.trans (hb'.mono HB0.out.size)⟩
 --]
def DemsNew (L:List Dm.Dem) (w:World) (e:Ending) (w':World):Prop:=∃ B d,e=.returned (.slice B L.length d)/\aJ.Row w' B L/\L.length<=d/\Below w.heap.size w w'/\∀ a,B=some a->w.heap.size<=a.block
theorem DemsNew.yes {L:List Dm.Dem} {w:World} {e:Ending} {w':World} (h:DemsNew L w e w'):DemsYes L w e w':=by
 obtain⟨B,d,h1,h2,h3,h4,-⟩:=h
 exact⟨B,d,h1,h2,h3,h4⟩
theorem DemsNew.of_own {L:List Dm.Dem} {w w':World} {base n:Nat} {v:Value} (h:w'.ownsRow base 138 aJ.m v n (aJ.all L)) (hn:n=L.length) (hb:Below w.heap.size w w') (hbase:w.heap.size<=base):DemsNew L w (.returned v) w':=by
 subst hn
 have hlt:=h.lt
 obtain⟨-,B,d,rfl,hc,hR⟩:=Lies.Row.of_own (E:=aJ) h
 exact⟨B,d,rfl,hR,hc,hb,λa ha=>by
  subst ha
  exact ArS hbase (hlt a.block rfl).1⟩
theorem xZ (A:Option Addr) (c:Nat) (L:List Dm.Dem) (w:World) (h:aJ.Row w A L) (hl:L.length<=1000) :
 Calls Tryz.prog 155 #[.slice A L.length c] w (DemsNew L w):=by
 --[
 have q22:∀ (w:World) (a:Option Addr) (n c n' c':Nat),(binOp .eql 89 (.slice a n c) (.slice none n' c')).run Tryz.prog w=.ok (.bool a.isNone) w:=λw a n c n' c'=>Lib.run_eql_slice_nil w _ _ a n c n' c' Tryz.underlying89
 cases A with
 | none =>
   obtain rfl:L=[]:=by
    rcases h with h|⟨b,o,hA,-⟩
    ·exact h
    cases hA
   go_enter Tryz.func155,Tryz.ntmps155
   go_wp2
   go_ret
   exact⟨none,0,rfl,.inl rfl,ArR _,Below.refl _ _,λa ha=>by cases ha⟩
 | some a =>
   obtain⟨b,o,sp⟩:=a
   have HB:=hid ((AtB w).alloc (ArR _) (.cells #[] 138))
   have HR:=hid (h.below rfl HB.out)
   have HO:=hid (gM w rfl (ArR _))
   clear h
   obtain⟨i0,hi,hz0,hz1,hz2⟩:=info_parts nO
   go_enter Tryz.func155,Tryz.ntmps155
   go_wp2_with (at_builtin;refine aZ aJ rfl (.tmp 5) (.tmp 6) 89 rfl w.heap.size 138 i0 _ 16 Tryz.underlying89 hi hz0 hz1 hz2 rfl (.slice (some ⟨w.heap.size,0,none⟩) 0 0) 0 [] rfl HO.out (some ⟨b,o,sp⟩) L.length c L rfl rfl HR.out (by omega) (by omega) (by simp) ?_;intro v1 w1 hown hg)
   have HB1:=hid (Below.grown HB.out hg (by simp) (λk hk=>by cases hk;exact ArR _))
   clear hg
   go_wp2
   go_ret
   exact DemsNew.of_own hown (by omega) HB1.out (ArR _)
 --]
def AoF (w:World) (e:Ending) (w':World):Prop:=∃ cap,e=.returned (.slice (some ⟨w.heap.size,0,none⟩) 0 cap)/\w'.ownsRow w.heap.size 138 2 (.slice (some ⟨w.heap.size,0,none⟩) 0 cap) 0 []/\Below w.heap.size w w'
theorem AbU (n:Nat) (w:World) (h0:0<n) (hl:n<=1000) :
 Calls Tryz.prog 174 #[.slice none 0 0,.int .i64 n] w (AoF w):=by
 --[
 obtain⟨i0,hi,hz0,hz1,hz2⟩:=info_parts nO
 have hr:=λty=>Lib.run_append_nil_zeros (P:=Tryz.prog) w 89 3 ty 138 i0 (.agg #[.int .i64 0,.int .i64 0]) .i64 .i64 Tryz.underlying89 Tryz.underlying3 hi hz0 n h0 (by omega) (by omega) (by rw[hz2];omega)
 have hge:=grownCap_ge w n 0 138
 have hmx:=grownCap_le_maxLen w n 0 138 (by unfold maxLen;omega)
 generalize grownCap w n 0 138=G at hr hge hmx
 have hsz:(Builtin.zeroCells (Value.agg #[.int .i64 0,.int .i64 0]).cells n++Builtin.zeroCells (Value.agg #[.int .i64 0,.int .i64 0]).cells (G-n)).size=G*2:=by
  rw[Array.size_append,size_zeroCells,size_zeroCells,show (Value.agg #[.int .i64 0,.int .i64 0]).cells.size=2 from rfl,<-Nat.add_mul]
  congr 1;omega
 generalize Builtin.zeroCells (Value.agg #[.int .i64 0,.int .i64 0]).cells n++Builtin.zeroCells (Value.agg #[.int .i64 0,.int .i64 0]).cells (G-n)=Z at hr hsz
 have HB:=hid ((AtB w).drew.alloc (ArR _) (.cells Z 138))
 have HO:=hid (show (w.drew.alloc (.cells Z 138)).ownsRow w.heap.size 138 2 (.slice (some ⟨w.heap.size,0,none⟩) 0 G) 0 [] from
  ⟨rfl,.inr ⟨w.heap.size,G,Z,rfl,ArR _,AsW w.drew _,AsD _,hmx,hsz,by simp⟩⟩)
 have D1:decide ((n:Int)<0)=false:=aB (by omega)
 have D2:decide ((0:Int)<(n:Int))=true:=aC (by omega)
 have HG:(G:Int)<=9223372036854775807:=by unfold maxLen at hmx;omega
 clear hsz hmx hz1 hz2 hi
 go_enter Tryz.func174,Tryz.ntmps174
 go_wp2_with (at_builtin;refine Lib.wpList_append_run _ rfl _ _ _ _ rfl _ _ rfl rfl _ _ (hr _) ?_)
 go_ret
 exact⟨G,rfl,HO.out,HB.out⟩
 --]
def Dm.catTo (Ls:Nat->List Dm.Dem):Nat->List Dm.Dem
 | 0=>[]
 | k+1=>Dm.catTo Ls k++Ls k
theorem Dm.catTo_len (Ls:Nat->List Dm.Dem):∀ {k m:Nat},k<=m->(Dm.catTo Ls k).length<=(Dm.catTo Ls m).length
 | k, 0, h => by obtain rfl:k=0:=by omega
                 exact ArR _
 | k, m+1,h=>by
   rcases Nat.lt_or_ge m k with h2|h2
   ·obtain rfl:k=m+1:=by omega
    exact ArR _
   have:=Dm.catTo_len Ls h2
   rw[show Dm.catTo Ls (m+1)=Dm.catTo Ls m++Ls m from rfl,ArV]
   omega
theorem uM (m:Nat) (g:Nat) (As:Nat->Option Addr) (cs:Nat->Nat) (Ls:Nat->List Dm.Dem) (w:World) (hg:g<w.heap.size)
 (hC:∀ k,k<m->w.cell? ⟨g,k,none⟩=some (.slice (As k) (Ls k).length (cs k))) (hR:∀ k,k<m->aJ.Row w (As k) (Ls k)) (hm:m<=1000) (h0:0<(Dm.catTo Ls m).length) (hl:(Dm.catTo Ls m).length<=1000) :
 Calls Tryz.prog 158 #[.slice (some ⟨g,0,none⟩) m m] w (DemsNew (Dm.catTo Ls m) w):=by
 --[
 have B0:=hid (AtB w)
 have KC:=hid (λW (hW:Below w.heap.size w W) k (hk:k<m)=>(hW.cell (p:=⟨g,k,none⟩) hg).trans (hC k hk))
 have KR:=hid (λW (hW:Below w.heap.size w W) k (hk:k<m)=>(hR k hk).below rfl hW)
 have KL:=hid (λk (hk:k<=m)=>Dm.catTo_len Ls hk)
 clear hC hR
 obtain⟨i0,hi,hz0,hz1,hz2⟩:=info_parts nO
 go_enter Tryz.func158,Tryz.ntmps158
 go_wp2_with fail
 go_loopw [3,5,11] (λv1 _ v2 w'=>∃ k:Nat,k<=m/\v1=.int .i64 ((Dm.catTo Ls k).length:Int)/\v2=.int .i64 k/\Below w.heap.size w w') (λ_ _ v2 _=>m-(intOf v2).toNat)
 case atStart=>exact⟨0,AsD _,rfl,rfl,B0.out⟩
 case round =>
  obtain⟨k,hk,rfl,rfl,hb⟩:=hrel
  have HB:=hid hb
  clear hb
  by_cases hlt:k<m
  ·have c0:=KC.out _ HB.out k hlt
   have hk1:=KL.out (k+1) hlt
   have hk0:=KL.out k hk
   have HL:=hid (show (Dm.catTo Ls (k+1)).length=(Dm.catTo Ls k).length+(Ls k).length from by rw[show Dm.catTo Ls (k+1)=Dm.catTo Ls k++Ls k from rfl,ArV])
   obtain⟨d1,i0,i1⟩:=ArK (show k<m by omega)
   have q:IntKind.i64.wrap (((Dm.catTo Ls k).length:Int)+((Ls k).length:Int))=((Dm.catTo Ls (k+1)).length:Int):=by
    have:=HL.out
    rw[IntWalk.i64_in _ (by omega)];omega
   have D2:decide (((Dm.catTo Ls (k+1)).length:Int)<0)=false:=aB (by omega)
   clear hk1 hk0
   go_wp2
   go_roundw
   case rel=>exact⟨k+1,by omega,rfl,by go_num,HB.out⟩
   case measure=>simp[intOf];omega
  obtain rfl:k=m:=by omega
  have d1:decide ((k:Int)<(k:Int))=false:=aB (by omega)
  have CG:=hid (AbU (Dm.catTo Ls k).length wr h0 hl)
  have HN:=hid h0
  clear h0
  go_wp2_with fail
  refine CG.out.mono ?_;rintro e w2 ⟨cap,rfl,ho,hb2⟩
  have O2:=hid (show w2.ownsRow wr.heap.size 138 2 (.slice (some ⟨wr.heap.size,0,none⟩) 0 cap) (Dm.catTo Ls 0).length (aJ.all (Dm.catTo Ls 0)) from ho)
  have B2:=hid (HB.out.trans (hb2.mono HB.out.size))
  have S2:=hid hb2.size
  have SZ:=hid HB.out.size
  clear ho hb2 CG
  go_wp2_with fail
  generalize wr.heap.size=base at O2 S2 SZ ⊢
  go_loopw [6,8,27] (λv1 _ v2 w'=>∃ j:Nat,j<=k/\v2=.int .i64 j/\w'.ownsRow base 138 2 v1 (Dm.catTo Ls j).length (aJ.all (Dm.catTo Ls j))/\base<=w'.heap.size/\Below w.heap.size w w') (λ_ _ v2 _=>k-(intOf v2).toNat)
  case atStart=>exact⟨0,AsD _,rfl,O2.out,S2.out,B2.out⟩
  case round =>
   obtain⟨j,hj,rfl,ho,hs,hb⟩:=hrel
   have HO:=hid ho
   have HB3:=hid hb
   have HS3:=hid hs
   clear ho hb hs
   by_cases hjt:j<k
   ·have c0:=KC.out _ HB3.out j hjt
    have hk1:=KL.out (j+1) hjt
    have HL:=hid (show (Dm.catTo Ls (j+1)).length=(Dm.catTo Ls j).length+(Ls j).length from by rw[show Dm.catTo Ls (j+1)=Dm.catTo Ls j++Ls j from rfl,ArV])
    have HE:=hid (show aJ.all (Dm.catTo Ls (j+1))=aJ.all (Dm.catTo Ls j)++aJ.all (Ls j) from by rw[show Dm.catTo Ls (j+1)=Dm.catTo Ls j++Ls j from rfl,aJ.all_append])
    have hsum:(Dm.catTo Ls j).length+(Ls j).length<=1000:=by have:=HL.out;omega
    have d1:decide ((j:Int)<(k:Int))=true:=aC (by omega)
    have i0':(0:Int)<=(j:Int):=ArT j
    have i1:(j:Int)<(k:Int):=by omega
    clear hk1
    go_wp2_with (at_builtin;refine aZ aJ rfl (.tmp 31) (.tmp 32) 89 rfl base 138 i0 _ 16 Tryz.underlying89 hi hz0 hz1 hz2 rfl _ (Dm.catTo Ls j).length (aJ.all (Dm.catTo Ls j)) rfl HO.out (As j) (Ls j).length (cs j) (Ls j) rfl rfl (KR.out _ HB3.out j hjt) (by omega) (by omega) HS3.out ?_;intro v4 w4 hown4 hg4)
    have HB4:=hid (Below.grown HB3.out hg4 HB3.out.size (λb hb=>ArS SZ.out (HO.out.lt b hb).1))
    have HS4:=hid (ArS HS3.out hg4.size)
    have HO4:=hid (show w4.ownsRow base 138 2 v4 (Dm.catTo Ls (j+1)).length (aJ.all (Dm.catTo Ls (j+1))) from by rw[HL.out,HE.out];exact hown4)
    clear hown4 hg4
    go_wp2
    go_roundw
    case rel=>exact⟨j+1,by omega,by go_num,HO4.out,HS4.out,HB4.out⟩
    case measure=>simp[intOf];omega
   obtain rfl:j=k:=by omega
   have d1:decide ((j:Int)<(j:Int))=false:=aB (by omega)
   go_wp2
   go_ret
   exact DemsNew.of_own HO.out rfl HB3.out SZ.out
 --]
theorem AhG {g:Nat} {A1 A2 A3:Option Addr} {c1 c2 c3:Nat} {n1 n2 n3:Nat} {w:World} (L1 L2 L3:List Dm.Dem) (h1:L1.length=n1) (h2:L2.length=n2) (h3:L3.length=n3)
 (hb:w.heap[g]?=some (.cells #[.slice A1 n1 c1,.slice A2 n2 c2,.slice A3 n3 c3] 89 (0,0)))
 (r1:aJ.Row w A1 L1) (r2:aJ.Row w A2 L2) (r3:aJ.Row w A3 L3) (h0:0<n2) (hl:n1+n2+n3<=1000) :
 Calls Tryz.prog 158 #[.slice (some ⟨g,0,none⟩) 3 3] w (DemsNew (L1++L2++L3) w):=by
 subst h1 h2 h3
 let As:Nat->Option Addr:=fun|0=>A1|1=>A2|_=>A3
 let cs:Nat->Nat:=fun|0=>c1|1=>c2|_=>c3
 let Ls:Nat->List Dm.Dem:=fun|0=>L1|1=>L2|_=>L3
 have e:Dm.catTo Ls 3=L1++L2++L3:=by
  show (([]++L1)++L2)++L3=_
  rw[List.nil_append]
 have hlen:(L1++L2++L3).length=L1.length+L2.length+L3.length:=by rw[ArV,ArV]
 have := uM 3 g As cs Ls w (ArL hb).1 (λk hk=>by
  match k,hk with
  | 0,_=>exact AsY w g 0 _ _ _ hb
  | 1,_=>exact AsY w g 1 _ _ _ hb
  | 2,_=>exact AsY w g 2 _ _ _ hb)
  (λk hk=>by
   match k,hk with
   | 0,_=>exact r1
   | 1,_=>exact r2
   | 2,_=>exact r3) (by omega) (by rw[e,hlen];omega) (by rw[e,hlen];omega)
 rw[e] at this
 exact this
theorem kE (w3:World) (x0 x1:Int) {A1 A3:Option Addr} {c1 c3:Nat} (L1 L3:List Dm.Dem) {n1 n3:Nat} (h1:L1.length=n1) (h3:L3.length=n3) (r1:aJ.Row w3 A1 L1) (r3:aJ.Row w3 A3 L3) (hl:n1+n3<=900) :
 Calls Tryz.prog 158 #[.slice (some ⟨w3.heap.size+1,0,none⟩) 3 3]
  ((w3.alloc (.cells #[.int .i64 x0,.int .i64 x1] 138)).alloc (.cells #[.slice A1 n1 c1,.slice (some ⟨w3.heap.size,0,none⟩) 1 1,.slice A3 n3 c3] 89)).drew λe w'=>∃ N B d,e=.returned (.slice B N d)/\N=(L1++[(⟨x0,x1⟩:Dm.Dem)]++L3).length/\aJ.Row w' B (L1++[(⟨x0,x1⟩:Dm.Dem)]++L3)/\(L1++[(⟨x0,x1⟩:Dm.Dem)]++L3).length<=d/\Below w3.heap.size w3 w'/\∀ a,B=some a->w3.heap.size<=a.block:=by
 have a0:=(AtB w3).alloc (ArR _) (.cells #[.int .i64 x0,.int .i64 x1] 138)
 have a1:=(a0.alloc a0.size (.cells #[.slice A1 n1 c1,.slice (some ⟨w3.heap.size,0,none⟩) 1 1,.slice A3 n3 c3] 89)).drew
 have o2:=(World.ownsRow.alloc (AgY w3 ⟨x0,x1⟩ (g:=w3.heap.size) (base:=w3.heap.size) rfl (ArR _)) (.cells #[.slice A1 n1 c1,.slice (some ⟨w3.heap.size,0,none⟩) 1 1,.slice A3 n3 c3] 89)).drew
 have hb:=AsW (w3.alloc (.cells #[.int .i64 x0,.int .i64 x1] 138)) (.cells #[.slice A1 n1 c1,.slice (some ⟨w3.heap.size,0,none⟩) 1 1,.slice A3 n3 c3] 89)
 rw[show (w3.alloc (.cells #[.int .i64 x0,.int .i64 x1] 138)).heap.size=w3.heap.size+1 by simp] at hb
 refine(AhG (n2:=1) (w:=((w3.alloc (.cells #[.int .i64 x0,.int .i64 x1] 138)).alloc (.cells #[.slice A1 n1 c1,.slice (some ⟨w3.heap.size,0,none⟩) 1 1,.slice A3 n3 c3] 89)).drew) L1 [⟨x0,x1⟩] L3 h1 rfl h3 hb (r1.below rfl a1) (OwnDm.row o2) (r3.below rfl a1) (by omega) (by omega)).mono ?_
 rintro e w' ⟨B,d,rfl,hR,hd,hb',hnew⟩
 exact⟨_,B,d,rfl,rfl,hR,hd,a1.trans (hb'.mono a1.size),λa ha=>ArS a1.size (hnew a ha)⟩
namespace Dm
theorem AlF {α:Type} {p:α->Bool}:∀ {L:List α} {k:Nat} {y:α},L[k]?=some y->p y=false->(∀ j<k,∀ t,L[j]?=some t->p t=true)->(L.takeWhile p).length=k
 | [],k,y,h,_,_=>by simp at h
 | x :: L,0,y,h,hy,_=>by
   obtain rfl:x=y:=by simpa using h
   rw[List.takeWhile_cons,ArY (by rw[hy];decide)];rfl
 | x :: L,k+1,y,h,hy,hb=>by
   have hx:=hb 0 (by omega) x rfl
   rw[List.takeWhile_cons,ArZ hx,AsJ]
   congr 1
   exact AlF (L:=L) (by simpa using h) hy λj hj t ht=>hb (j+1) (by omega) t (by simpa using ht)
theorem ApW {α:Type} {p:α->Bool} {L:List α} (h:∀ x∈L,p x=true):(L.takeWhile p).length=L.length:=by
 induction L with
 | nil=>rfl
 | cons y L ih =>
   rw[List.takeWhile_cons,ArZ (h y (List.mem_cons_self ..)),AsJ,AsJ,ih λx hx=>h x (List.mem_cons_of_mem _ hx)]
theorem uN {k:Int} {x:Dem}:low k x = !decide (k<=x.pt):=by
 unfold low
 by_cases h:x.pt<k
 ·rw[decide_eq_true h,decide_eq_false (by omega)];rfl
 rw[decide_eq_false h,decide_eq_true (by omega)];rfl
end Dm
theorem sA (A:Option Addr) (c:Nat) (L:List Dm.Dem) (x:Dm.Dem) (w:World) (h:aJ.Row w A L) (hl:L.length<=900) (hc:L.length<=c) :
 Calls Tryz.prog 138 #[.slice A L.length c,AbN x] w (DemsNew (Dm.put L x) w):=by
 --[
 obtain⟨x0,x1⟩:=x
 have XX:=(AtB w).alloc (ArR _) (.cells #[.int .i64 x0,.int .i64 x1] 138)
 have X0:=hid XX
 have RX:=hid (AsW w (.cells #[.int .i64 x0,.int .i64 x1] 138))
 have HR:=hid (h.below rfl XX)
 have CP:=hid (cU A c L x0 _ HR.out (by omega))
 clear h XX
 by_cases h0:Dm.posOf L x0=0
 ·rw[h0] at CP
  have P:=hid (Dm.xX (x:=⟨x0,x1⟩) h0)
  clear h0
  go_enter Tryz.func138,Tryz.ntmps138
  go_upto_region 1 with fail
  generalize w.alloc (.cells #[.int .i64 x0,.int .i64 x1] 138)=w1 at X0 RX HR CP ⊢
  generalize w.heap.size=gx at RX ⊢
  have gl:=(ArL RX.out).1
  obtain⟨t0,t1⟩:=bM RX.out
  have KX:=hid (λW' (hW:Below w1.heap.size w1 W')=>(hW.block _ gl).trans RX.out)
  go_wp2_with fail
  refine CP.out.mono ?_;rintro e w2 ⟨rfl,hb2⟩
  have B2:=hid hb2
  have CI:=hid (AhE A c L (λy=>decide (x0<=y.pt)) gx w2 (HR.out.below rfl hb2) (by omega) λy W hW=>AoC y x0 gx W (AsE gl (hb2.trans (hW.mono hb2.size)).size) (bM (KX.out W (hb2.trans (hW.mono hb2.size)))).1)
  obtain⟨t0',t1'⟩:=bM (KX.out _ hb2)
  clear hb2 t0 t1 CP
  go_wp2_with fail
  refine CI.out.mono ?_;rintro e w3 ⟨i,rfl,hi,hb3⟩
  have B3:=hid (B2.out.trans (hb3.mono B2.out.size))
  clear hb3 CI t0' t1' B2
  have PRE:=hid (bM (KX.out _ B3.out))
  have RW:=hid (λW (hW:Below w3.heap.size w3 W)=>HR.out.below rfl (B3.out.trans (hW.mono B3.out.size)))
  have KS:=hid (λW (hW:Below w3.heap.size w3 W)=>bM (KX.out _ (B3.out.trans (hW.mono B3.out.size))))
  have T0:=hid (AtB w3)
  have gx3:gx<w3.heap.size:=AsE gl B3.out.size
  have XZ:=hid (ArS X0.out.size B3.out.size)
  have XF:=hid (λW (hW:Below w3.heap.size w3 W)=>X0.out.trans ((B3.out.trans (hW.mono B3.out.size)).mono X0.out.size))
  clear KX gl
  rcases hi with ⟨rfl,hn⟩|⟨k,y,rfl,hk,hy,hb⟩
  ·have hk:(L.takeWhile (Dm.low x0)).length=L.length:=Dm.ApW λy hy=>by have h7:decide (x0<=y.pt)=false:=hn y hy;rw[Dm.uN,h7];rfl
   have PK:=hid (show Dm.put L ⟨x0,x1⟩=L++[⟨x0,x1⟩]++[] from by
    rw[P.out,hk,List.take_length,List.drop_length,AsM])
   have D1:decide ((-1:Int)<0)=true:=by decide
   have i0:(0:Int)<=(L.length:Int):=ArT _
   have lc:(L.length:Int)<=(c:Int):=by omega
   clear hk hn P
   cases A with
   | none =>
     go_upto_region 6 with fail
     obtain⟨t0,t1⟩:=PRE.out
     go_region_held3 (λW=>W.cell? ⟨gx,0,none⟩=some (.int .i64 x0)/\W.cell? ⟨gx,1,none⟩=some (.int .i64 x1))
      (first|with_reducible exact KS.out _ T0.out.drew|with_reducible exact KS.out _ h9|(go_keep;done))
      (first|(go_at_call 158;refine(kE w3 x0 x1 L [] rfl rfl (RW.out _ T0.out) (.inl rfl) (by omega)).mono ?_;rintro e9 w9 ⟨N9,B9,d9,rfl,hN9,hR9,hd9,h9,hw9⟩;have HN9:=hid hN9;have HW9:=hid hw9;clear hN9 hw9))
     all_goals go_wp2_with fail
     all_goals go_ret
     all_goals (rw[PK.out];exact⟨B9,d9,by rw[<-HN9.out] <;> rfl,hR9,hd9,XF.out _ h9,λa ha=>ArS XZ.out (HW9.out a ha)⟩)
   | some a =>
     obtain⟨b,o,sp⟩:=a
     by_cases hck:c=L.length
     ·subst hck
      go_upto_region 6 with fail
      obtain⟨t0,t1⟩:=PRE.out
      go_region_held3 (λW=>W.cell? ⟨gx,0,none⟩=some (.int .i64 x0)/\W.cell? ⟨gx,1,none⟩=some (.int .i64 x1))
       (first|with_reducible exact KS.out _ T0.out.drew|with_reducible exact KS.out _ h9|(go_keep;done))
       (first|(go_at_call 158;refine(kE w3 x0 x1 L [] rfl rfl (RW.out _ T0.out) (.inl rfl) (by omega)).mono ?_;rintro e9 w9 ⟨N9,B9,d9,rfl,hN9,hR9,hd9,h9,hw9⟩;have HN9:=hid hN9;have HW9:=hid hw9;clear hN9 hw9))
      all_goals go_wp2_with fail
      all_goals go_ret
      all_goals (rw[PK.out];exact⟨B9,d9,by rw[<-HN9.out] <;> rfl,hR9,hd9,XF.out _ h9,λa ha=>ArS XZ.out (HW9.out a ha)⟩)
     ·
      go_upto_region 6 with fail
      obtain⟨t0,t1⟩:=PRE.out
      go_region_held3 (λW=>W.cell? ⟨gx,0,none⟩=some (.int .i64 x0)/\W.cell? ⟨gx,1,none⟩=some (.int .i64 x1))
       (first|with_reducible exact KS.out _ T0.out.drew|with_reducible exact KS.out _ h9|(go_keep;done))
       (first|(go_at_call 158;refine(kE w3 x0 x1 L [] rfl rfl (RW.out _ T0.out) (.inl rfl) (by omega)).mono ?_;rintro e9 w9 ⟨N9,B9,d9,rfl,hN9,hR9,hd9,h9,hw9⟩;have HN9:=hid hN9;have HW9:=hid hw9;clear hN9 hw9))
      all_goals go_wp2_with fail
      all_goals go_ret
      all_goals (rw[PK.out];exact⟨B9,d9,by rw[<-HN9.out] <;> rfl,hR9,hd9,XF.out _ h9,λa ha=>ArS XZ.out (HW9.out a ha)⟩)
  have hkl:=(ArM hk).1
  have PK:=hid (show Dm.put L ⟨x0,x1⟩=L.take k++[⟨x0,x1⟩]++L.drop k from by
   rw[P.out,Dm.AlF hk (show Dm.low x0 y=false by have h7:decide (x0<=y.pt)=true:=hy;rw[Dm.uN,h7];rfl) (λj hj t ht=>by have h7:decide (x0<=t.pt)=false:=hb j hj t ht;rw[Dm.uN,h7];rfl),List.append_assoc];rfl)
  obtain⟨b,o,rfl,-,-⟩:=HR.out.at hkl
  have D1:decide ((k:Int)<0)=false:=aB (by omega)
  have i0:(0:Int)<=(k:Int):=ArT k
  have ic:(k:Int)<=(c:Int):=by omega
  have il:(k:Int)<=(L.length:Int):=by omega
  have lc:(L.length:Int)<=(c:Int):=by omega
  have ic':k<=c:=by omega
  have hck:¬ c=k:=by omega
  clear hk hy hb P
  go_upto_region 6 with fail
  obtain⟨t0,t1⟩:=PRE.out
  go_region_held3 (λW=>W.cell? ⟨gx,0,none⟩=some (.int .i64 x0)/\W.cell? ⟨gx,1,none⟩=some (.int .i64 x1))
   (first|with_reducible exact KS.out _ T0.out.drew|with_reducible exact KS.out _ h9|(go_keep;done))
   (first|(go_at_call 158;refine(kE w3 x0 x1 (L.take k) (L.drop k) (by rw[AsU];omega) (by rw[List.length_drop]) (Lies.Row.take aJ (RW.out _ T0.out) k) (Lies.Row.drop aJ (RW.out _ T0.out) k) (by omega)).mono ?_;rintro e9 w9 ⟨N9,B9,d9,rfl,hN9,hR9,hd9,h9,hw9⟩;have HN9:=hid hN9;have HW9:=hid hw9;clear hN9 hw9))
  all_goals go_wp2_with fail
  all_goals go_ret
  all_goals (rw[PK.out];exact⟨B9,d9,by rw[<-HN9.out] <;> rfl,hR9,hd9,XF.out _ h9,λa ha=>ArS XZ.out (HW9.out a ha)⟩)
 ·have P:=hid (Dm.AeH (x:=⟨x0,x1⟩) h0)
  have E:(Dm.posOf L x0 != 0)=true:=by rw[AsV];exact h0
  generalize Dm.posOf L x0=n at CP E
  clear h0
  go_enter Tryz.func138,Tryz.ntmps138
  go_upto_region 1 with fail
  generalize w.alloc (.cells #[.int .i64 x0,.int .i64 x1] 138)=w1 at X0 RX HR CP ⊢
  generalize w.heap.size=gx at RX ⊢
  obtain⟨t0,t1⟩:=bM RX.out
  go_wp2_with fail
  refine CP.out.mono ?_;rintro e w2 ⟨rfl,hb2⟩
  have B2:=hid hb2
  have CC:=hid (xZ A c L w2 (HR.out.below rfl hb2) (by omega))
  clear hb2 t0 t1 CP
  go_wp2_with fail
  refine CC.out.mono ?_;rintro e w3 ⟨B,d,rfl,hR,hd,hb3,hnew⟩
  have XZ:=hid (λa (ha:B=some a)=>ArS (ArS X0.out.size B2.out.size) (hnew a ha))
  have B3:=hid (X0.out.trans ((B2.out.trans (hb3.mono B2.out.size)).mono X0.out.size))
  have R3:=hid hR
  clear hb3 CC hR hnew
  go_wp2
  go_ret
  rw[P.out]
  exact⟨B,d,rfl,R3.out,hd,B3.out,XZ.out⟩
 --]
open Go.RowKit
namespace Dm
theorem fU {p:Pl.Plan} {L:List Wk.Stp} {k:Nat} {y:Wk.Stp} (h:L[k]?=some y):ofSteps p (L.take (k+1))=if 0<Wk.position p y then put (ofSteps p (L.take k)) ⟨y.s,Wk.position p y⟩ else ofSteps p (L.take k):=by
 rw[List.take_add_one,h]
 unfold ofSteps
 rw[List.foldl_append]
 rfl
theorem jR (L:List Dem) (x:Dem):(put L x).length<=L.length+1:=by
 unfold put
 split
 ·omega
 have h:L.takeWhile (low x.pt)++L.dropWhile (low x.pt)=L:=List.takeWhile_append_dropWhile
 have:=congrArg List.length h
 rw[ArV] at this
 rw[ArV,AsJ]
 omega
theorem dK (p:Pl.Plan) (L:List Wk.Stp):∀ k,(ofSteps p (L.take k)).length<=k
 | 0=>by rw[List.take_zero];exact ArR _
 | k + 1=>by
   have ih:=dK p L k
   cases h:L[k]? with
   | none =>
     rw[List.take_add_one,h]
     show (ofSteps p (L.take k++[])).length<=_
     rw[AsM];omega
   | some y =>
     rw[fU h]
     split
     ·have:=jR (ofSteps p (L.take k)) ⟨y.s,Wk.position p y⟩;omega
     omega
end Dm
theorem AlG (p:Pl.Plan) (A:Option Addr) (c:Nat) (A':Option Addr) (c':Nat) (L:List Wk.Stp) (B:Option Addr) (d:Nat) (w:World) (h:PlanIn w p A A') (hL:aE.Row w B L) (hl:L.length<=500) :
 Calls Tryz.prog 120 #[aR p A c A' c',.slice B L.length d] w (DemsNew (Dm.ofSteps p L) w):=by
 --[
 have XA:=(AtB w).alloc (ArR _) (aD p A c A' c')
 have X0:=hid XA
 have RP:=hid (AsW w (aD p A c A' c'))
 have gp:=(ArL RP.out).1
 have HI:=hid (h.below XA)
 have HL:=hid (hL.below rfl XA)
 have KP:=hid (λW (hW:Below (w.alloc (aD p A c A' c')).heap.size (w.alloc (aD p A c A' c')) W)=>(row6 ((hW.block _ gp).trans RP.out)).1)
 have T0:=hid (Below.refl (w.alloc (aD p A c A' c')).heap.size (w.alloc (aD p A c A' c')))
 clear XA h hL
 go_enter Tryz.func120,Tryz.ntmps120
 go_upto_region 2 with fail
 generalize w.alloc (aD p A c A' c')=w1 at X0 RP gp HI HL KP T0 ⊢
 generalize w.heap.size=gq at RP gp KP ⊢
 go_wp2_with fail
 go_loopw [5,6,7] (λv1 v2 _ w'=>∃ (k:Nat) (B':Option Addr) (d':Nat),k<=L.length/\v1=.slice B' (Dm.ofSteps p (L.take k)).length d'/\v2=.int .i64 k/\aJ.Row w' B' (Dm.ofSteps p (L.take k))/\(Dm.ofSteps p (L.take k)).length<=d'/\Below w1.heap.size w1 w'/\∀ a,B'=some a->w1.heap.size<=a.block) (λ_ v2 _ _=>L.length-(intOf v2).toNat)
 case atStart=>exact⟨0,none,0,AsD _,rfl,rfl,.inl rfl,ArR _,T0.out,λa ha=>by cases ha⟩
 case round =>
  obtain⟨k,B',d',hk,rfl,rfl,hR,hd,hB,hN⟩:=hrel
  have HNW:=hid hN
  clear hN
  have HB:=hid hB
  have HR:=hid hR
  have HD:=hid hd
  clear hB hR hd
  have HLN:=hid (Dm.dK p L k)
  by_cases hlt:k<L.length
  ·have hy:=ArN hlt
   obtain⟨b1,o1,rfl,g1,on⟩:=(HL.out.below rfl HB.out).at hlt
   generalize L[k]=y at hy on
   obtain⟨r0,r1,r2⟩:=bL on
   rw[show k*aE.m=k*3 from rfl] at r0 r1 r2
   obtain⟨d1,i0,i1⟩:=ArK (show k<L.length by omega)
   have HN:=hid (Dm.fU (p:=p) hy)
   have KS:=hid (λW (hW:Below wr.heap.size wr W)=>AsG (KP.out _ (HB.out.trans (hW.mono HB.out.size))) (AsG ((hW.cell (p:=⟨b1,o1+k*3,none⟩) g1).trans r0) (AsG ((hW.cell (p:=⟨b1,o1+k*3+1,none⟩) g1).trans r1) ((hW.cell (p:=⟨b1,o1+k*3+2,none⟩) g1).trans r2))))
   have R0:=hid (AtB wr)
   have CP:=hid (λW (hW:Below wr.heap.size wr W)=>Made.of (w:=wr) hW (gL p A c A' c' y W (HI.out.below (HB.out.trans (hW.mono HB.out.size)))))
   generalize hpos:Wk.position p y=n at CP HN
   obtain⟨s,f,t⟩:=y
   clear hpos hy on
   simp only at r0 r1 r2
   generalize HQ:Dm.ofSteps p (L.take k)=M at HR HD HLN HN ⊢
   clear HQ
   obtain⟨⟨p0,p1,p2,p3,p4,p5⟩,-⟩:=KS.out _ R0.out
   go_upto_region 5 with fail
   clear p0 p1 p2 p3 p4 p5 r0 r1 r2
   go_region_held3 (λW'=>(W'.cell? ⟨gq,0,none⟩=some (.int .i64 p.ov)/\W'.cell? ⟨gq,1,none⟩=some (.int .i64 p.ap)/\W'.cell? ⟨gq,2,none⟩=some (.int .i64 p.se)/\W'.cell? ⟨gq,3,none⟩=some (.int .i64 p.ho)/\W'.cell? ⟨gq,4,none⟩=some (.slice A p.secs.length c)/\W'.cell? ⟨gq,5,none⟩=some (.slice A' p.sigs.length c'))/\W'.cell? ⟨b1,o1+k*3,none⟩=some (.int .i64 s)/\W'.cell? ⟨b1,o1+k*3+1,none⟩=some (.int .i64 f)/\W'.cell? ⟨b1,o1+k*3+2,none⟩=some (.int .i64 t))
    (first|with_reducible exact KS.out _ R0.out.drew|with_reducible exact KS.out _ h5)
    (first
     | (go_at_call 121;(with_reducible refine(CP.out _ R0.out.drew).mono ?_);rintro e5 w5 ⟨rfl,-,h5,-⟩))
   obtain⟨-,r0,-,-⟩:=KS.out _ h5
   have HB5:=hid (HB.out.trans (h5.mono HB.out.size))
   have HR5:=hid (HR.out.below rfl h5)
   clear h5 CP KS
   by_cases hn:0<n
   ·have D:decide (0<n)=true:=aC hn
    have HN2:=hid (show Dm.ofSteps p (L.take (k+1))=Dm.put M ⟨s,n⟩ from by rw[HN.out,ArZ hn])
    have CU:=hid (xY B' d' M ⟨s,n⟩ w5 HR5.out (by have:=HLN.out;omega) HD.out)
    clear hn HN
    go_wp2_with fail
    refine CU.out.mono ?_;rintro e6 w6 ⟨B6,d6,rfl,hR6,hd6,hb6,hn6⟩
    have HNW6:=hid (show ∀ a,B6=some a->w1.heap.size<=a.block from λa ha=>by
     rcases hn6 with ⟨h1,-⟩|h1
     ·exact HNW.out a (h1 ▸ ha)
     have:=h1 a ha
     have:=HB5.out.size
     omega)
    clear hn6
    rw[<-HN2.out] at hR6 hd6 ⊢
    have HR6:=hid hR6
    have HD6:=hid hd6
    have HB6:=hid (HB5.out.trans (hb6.mono HB5.out.size))
    generalize hq:(Dm.ofSteps p (List.take (k+1) L)).length=N6
    have HQ6:=hid hq
    clear hR6 hd6 hb6 CU HN2 hq
    go_wp2
    go_roundw
    case rel=>exact⟨k+1,B6,d6,by omega,by rw[HQ6.out],by go_num,HR6.out,HD6.out,HB6.out,HNW6.out⟩
    case measure=>simp[intOf];omega
   have D:decide (0<n)=false:=aB hn
   have HN2:=hid (show Dm.ofSteps p (L.take (k+1))=M from by rw[HN.out,ArY hn])
   clear hn HN
   go_wp2
   go_roundw
   case rel=>exact⟨k+1,B',d',by omega,by rw[HN2.out],by go_num,by rw[HN2.out];exact HR5.out,by rw[HN2.out];exact HD.out,HB5.out,HNW.out⟩
   case measure=>simp[intOf];omega
  obtain rfl:k=L.length:=by omega
  have d1:decide ((L.length:Int)<(L.length:Int))=false:=aB (by omega)
  rw[List.take_length] at HR HD ⊢
  generalize hq:Dm.ofSteps p L=M at HR HD ⊢
  have HQ:=hid hq
  clear hq
  have HX:=hid (X0.out.trans (HB.out.mono X0.out.size))
  go_wp2
  go_ret
  rw[HQ.out]
  exact⟨B',d',rfl,HR.out,HD.out,HX.out,λa ha=>ArS X0.out.size (HNW.out a ha)⟩
 --]
theorem AlH (p:Pl.Plan) (hps:p.secs.length<=24) (A:Option Addr) (c:Nat) (A':Option Addr) (c':Nat) (L:List Wk.Stp) (B:Option Addr) (d:Nat) (w:World) (h:PlanIn w p A A') (hL:aE.Row w B L) (hl:L.length<=500) :
 Calls Tryz.prog 104 #[aR p A c A' c',.slice B L.length d] w (DemsNew (Dm.ofSteps p L) w):=by
 --[
 have XA:=(AtB w).alloc (ArR _) (aD p A c A' c')
 have X0:=hid XA
 have RP:=hid (AsW w (aD p A c A' c'))
 have gp:=(ArL RP.out).1
 have HI:=hid (h.below XA)
 have HL:=hid (hL.below rfl XA)
 have KP:=hid (λW (hW:Below (w.alloc (aD p A c A' c')).heap.size (w.alloc (aD p A c A' c')) W)=>(row6 ((hW.block _ gp).trans RP.out)).1)
 have T0:=hid (Below.refl (w.alloc (aD p A c A' c')).heap.size (w.alloc (aD p A c A' c')))
 clear XA h hL
 go_enter Tryz.func104,Tryz.ntmps104
 go_upto_region 2 with fail
 generalize w.alloc (aD p A c A' c')=w1 at X0 RP gp HI HL KP T0 ⊢
 generalize w.heap.size=gq at RP gp KP ⊢
 go_wp2_with fail
 go_loopw [5,8,11] (λv1 _ v2 w'=>∃ (k:Nat) (B':Option Addr) (d':Nat),k<=L.length/\v1=.slice B' (Dm.ofSteps p (L.take k)).length d'/\v2=.int .i64 k/\aJ.Row w' B' (Dm.ofSteps p (L.take k))/\(Dm.ofSteps p (L.take k)).length<=d'/\Below w1.heap.size w1 w'/\∀ a,B'=some a->w1.heap.size<=a.block) (λ_ _ v2 _=>L.length-(intOf v2).toNat)
 case atStart=>exact⟨0,none,0,AsD _,rfl,rfl,.inl rfl,ArR _,T0.out,λa ha=>by cases ha⟩
 case round =>
  obtain⟨k,B',d',hk,rfl,rfl,hR,hd,hB,hN⟩:=hrel
  have HNW:=hid hN
  clear hN
  have HB:=hid hB
  have HR:=hid hR
  have HD:=hid hd
  clear hB hR hd
  have HLN:=hid (Dm.dK p L k)
  by_cases hlt:k<L.length
  ·have hy:=ArN hlt
   obtain⟨b1,o1,rfl,g1,on⟩:=(HL.out.below rfl HB.out).at hlt
   generalize L[k]=y at hy on
   obtain⟨r0,r1,r2⟩:=bL on
   rw[show k*aE.m=k*3 from rfl] at r0 r1 r2
   obtain⟨d1,i0,i1⟩:=ArK (show k<L.length by omega)
   have HN:=hid (Dm.fU (p:=p) hy)
   obtain⟨s,f,t⟩:=y
   simp only at r0 r1 r2
   have RX:=hid (AsW wr (.cells #[.int .i64 s,.int .i64 f,.int .i64 t] 129))
   have HX:=hid (HB.out.alloc HB.out.size (.cells #[.int .i64 s,.int .i64 f,.int .i64 t] 129))
   have HR2:=hid (HR.out.below rfl ((AtB wr).alloc (ArR _) (.cells #[.int .i64 s,.int .i64 f,.int .i64 t] 129)))
   go_upto_region 5 with fail
   generalize wr.alloc (.cells #[.int .i64 s,.int .i64 f,.int .i64 t] 129)=w2 at RX HX HR2 ⊢
   generalize wr.heap.size=gx at RX ⊢
   clear r0 r1 r2
   obtain⟨⟨t0,t1,t2⟩,-,gx2⟩:=row3 RX.out
   obtain⟨p0,p1,p2,p3,p4,p5⟩:=KP.out _ HX.out
   have CP:=hid (eL p A c A' c' ⟨s,f,t⟩ w2 (HI.out.below HX.out) hps)
   generalize hpos:Wk.position p ⟨s,f,t⟩=n at CP HN
   generalize hq:Dm.ofSteps p (L.take k)=M at HR2 HD HLN HN ⊢
   clear hpos hy on hq
   go_wp2_with fail
   refine CP.out.mono ?_;rintro e5 w5 ⟨rfl,h5⟩
   obtain⟨⟨t0',t1',t2'⟩,-,-⟩:=row3 ((h5.block _ (ArL RX.out).1).trans RX.out)
   have HB5:=hid (HX.out.trans (h5.mono HX.out.size))
   have HR5:=hid (HR2.out.below rfl h5)
   clear h5 CP t0 t1 t2 p0 p1 p2 p3 p4 p5
   by_cases hn:0<n
   ·have D:decide (0<n)=true:=aC hn
    have HN2:=hid (show Dm.ofSteps p (L.take (k+1))=Dm.put M ⟨s,n⟩ from by rw[HN.out,ArZ hn])
    have CU:=hid (sA B' d' M ⟨s,n⟩ w5 HR5.out (by have:=HLN.out;omega) HD.out)
    clear hn HN
    go_wp2_with fail
    refine CU.out.mono ?_;rintro e6 w6 ⟨B6,d6,rfl,hR6,hd6,hb6,hn6⟩
    have HNW6:=hid (show ∀ a,B6=some a->w1.heap.size<=a.block from λa ha=>by
     have:=hn6 a ha
     have:=HB5.out.size
     omega)
    clear hn6
    rw[<-HN2.out] at hR6 hd6 ⊢
    have HR6:=hid hR6
    have HD6:=hid hd6
    have HB6:=hid (HB5.out.trans (hb6.mono HB5.out.size))
    generalize hq:(Dm.ofSteps p (List.take (k+1) L)).length=N6
    have HQ6:=hid hq
    clear hR6 hd6 hb6 CU HN2 hq
    go_wp2
    go_roundw
    case rel=>exact⟨k+1,B6,d6,by omega,by rw[HQ6.out],by go_num,HR6.out,HD6.out,HB6.out,HNW6.out⟩
    case measure=>simp[intOf];omega
   have D:decide (0<n)=false:=aB hn
   have HN2:=hid (show Dm.ofSteps p (L.take (k+1))=M from by rw[HN.out,ArY hn])
   clear hn HN
   go_wp2
   go_roundw
   case rel=>exact⟨k+1,B',d',by omega,by rw[HN2.out],by go_num,by rw[HN2.out];exact HR5.out,by rw[HN2.out];exact HD.out,HB5.out,HNW.out⟩
   case measure=>simp[intOf];omega
  obtain rfl:k=L.length:=by omega
  have d1:decide ((L.length:Int)<(L.length:Int))=false:=aB (by omega)
  rw[List.take_length] at HR HD ⊢
  generalize hq:Dm.ofSteps p L=M at HR HD ⊢
  have HQ:=hid hq
  clear hq
  have HX:=hid (X0.out.trans (HB.out.mono X0.out.size))
  go_wp2
  go_ret
  rw[HQ.out]
  exact⟨B',d',rfl,HR.out,HD.out,HX.out,λa ha=>ArS X0.out.size (HNW.out a ha)⟩
 --]
open Go.RowKit
theorem Lies.Row.kept {α:Type} {E:Lies α} {w w':World} {A:Option Addr} {L:List α} (h:E.Row w A L) (hs:w.heap.size<=w'.heap.size) (hk:L≠[]->∀ a,A=some a->w'.heap[a.block]?=w.heap[a.block]?):E.Row w' A L:=by
 rcases h with h|⟨b,o,hA,hlt,h⟩
 ·exact .inl h
 refine .inr ⟨b,o,hA,by omega,λk y hy j v hv=>?_⟩
 have e:=hk (λe=>by rw[e] at hy;simp at hy) _ hA
 rw[<-h k y hy j v hv]
 unfold World.cell?
 rw[show w'.heap[b]?=w.heap[b]? from e]
theorem Fl.next_fit {p:Pl.Plan} (hf:Pl.Fit p) {s k q f:Int} (h:Wk.next p s k=(q,f,true)):(0<=q/\q<p.secs.length)/\0<=f/\f<=2:=by
 unfold Wk.next at h
 split at h
 ·exact absurd (congrArg (λx=>x.2.2) h) (by simp)
 rename_i x hx
 split at h
 ·exact absurd (congrArg (λx=>x.2.2) h) (by simp)
 rename_i hg
 obtain⟨i,e,y,h1,h2,h3,h4,h5⟩:=Lp.endOf_some hx
 simp only[Prod.mk.injEq] at h
 obtain⟨e1,e2,-⟩:=h
 have h6:=hf.ends i y h4 e h3
 rw[<-h5] at h6
 have h7:=h6.2.2 (by omega)
 omega
theorem Lies.Row.lt {α:Type} {E:Lies α} {w:World} {A:Option Addr} {L:List α} (h:E.Row w A L) (hne:L≠[]):∀ a,A=some a->a.block<w.heap.size:=λa ha=>by
 rcases h with h|⟨b,o,hA,hlt,-⟩
 ·exact absurd h hne
 rw[ha] at hA
 cases hA
 exact hlt
theorem yA {L:List Int} {j:Nat} {x:Int} (h:L[j]?=some x) (n:Int):(L.drop j).any (λy=>decide (y=n))=(decide (x=n) || (L.drop (j+1)).any λy=>decide (y=n)):=by
 obtain⟨hj,rfl⟩:=ArM h
 rw[List.drop_eq_getElem_cons hj,List.any_cons]
theorem AlI:(Tryz.prog.info? 129).map (λi=>(i.zero,i.size,i.bytes))=some (some (.agg #[.int .i64 0,.int .i64 0,.int .i64 0]),3,24):=by kernel_rfl
theorem uO (w:World) {g base:Nat} (hg:w.heap.size=g) (hb:base<=g):(w.alloc (.cells #[] 129)).ownsRow base 129 aE.m (.slice (some ⟨g,0,none⟩) 0 0) 0 []:=by
 subst hg
 exact⟨rfl,.inr ⟨w.heap.size,0,#[],rfl,hb,AsW _ _,ArR _,by unfold maxLen;omega,rfl,rfl⟩⟩
def uP (g:Fl.G) (w:World) (e:Ending) (w':World):Prop:=∃ B1 d1 B2 d2,e=.returned (.tuple #[.slice B1 g.pts.length d1,.slice B2 g.fl.length d2])/\aJ.Row w' B1 g.pts/\g.pts.length<=d1/\aF.Row w' B2 g.fl/\g.fl.length<=d2/\Below w.heap.size w w'/\(g.pts≠[]->∀ a,B1=some a->w.heap.size<=a.block)/\(g.fl≠[]->∀ a,B2=some a->w.heap.size<=a.block)
namespace Fl
def upTo (p:Pl.Plan) (own:List Wk.Stp) (k:Nat):G:=(own.take k).foldl (one p own) ⟨Dm.ofSteps p own,[],[]⟩
theorem fJ {p:Pl.Plan} {own:List Wk.Stp} {k:Nat} {y:Wk.Stp} (h:own[k]?=some y):upTo p own (k+1)=one p own (upTo p own k) y:=by
 unfold upTo
 rw[List.take_add_one,h,List.foldl_append];rfl
theorem jP (p:Pl.Plan) (own:List Wk.Stp):upTo p own own.length=of p own:=by
 unfold upTo of
 rw[List.take_length]
theorem AoG (p:Pl.Plan) (own:List Wk.Stp) (x:Wk.Stp) (g:G):(one p own g x).pts.length<=g.pts.length+8/\(one p own g x).fl.length<=g.fl.length+8:=by
 unfold one
 split
 ·have ha:=on_adds p own 9 x.s (3-Wk.position p x) { g with seen:=[] }
  have h3:=ha.most (AsD _)
  have h4:=ha.pts
  have h5:=ha.fl
  simp only[List.length_nil,Nat.add_zero] at h4 h5
  exact⟨by omega,by omega⟩
 exact⟨by omega,by omega⟩
theorem jO (p:Pl.Plan) (own:List Wk.Stp):∀ k,k<=own.length->(upTo p own k).pts.length<=own.length+8*k/\(upTo p own k).fl.length<=8*k
 | 0,_=>by
   have:=Dm.dK p own own.length
   rw[List.take_length] at this
   exact⟨this,ArR _⟩
 | k+1,h=>by
   rw[fJ (ArN (show k<own.length by omega))]
   have h1:=jO p own k (by omega)
   have h2:=AoG p own (own[k]'(by omega)) (upTo p own k)
   omega
end Fl
open Go.RowKit
theorem AhH (A:Option Addr) (c:Nat) (L:List Int) (n:Int) (w:World) (h:aF.Row w A L) (hl:L.length<=1000000) :
 Calls Tryz.prog 149 #[.slice A L.length c,.int .i64 n] w λe w'=>e=.returned (.bool (L.any λy=>decide (y=n)))/\w=w':=by
 --[
 generalize hq:(L.any λy=>decide (y=n))=q
 have HQ:=hid hq
 clear hq
 go_enter Tryz.func149,Tryz.ntmps149
 go_wp2
 go_loop [5] (λi=>∃ j:Nat,j<=L.length/\i=.int .i64 j/\((L.drop j).any λy=>decide (y=n))=q) (λi=>L.length-(intOf i).toNat)
 case atStart=>exact⟨0,AsD _,rfl,by rw[List.drop_zero];exact HQ.out⟩
 case round =>
  obtain⟨j,hj,rfl,hp⟩:=hrel
  by_cases hlt:j<L.length
  ·obtain⟨b,o,rfl,hb,on⟩:=h.at hlt
   have hx:=ArN hlt
   generalize L[j]=x at hx on
   have c0:=eU on
   rw[show j*aF.m=j from Nat.mul_one j] at c0
   rw[yA hx] at hp
   have HP:=hid hp
   clear on hx hp
   by_cases he:x=n
   ·have h1:(x == n)=true:=by rw[beq_iff_eq];exact he
    have P:=hid (show true=q from by have:=HP.out;rwa [decide_eq_true he,Bool.true_or] at this)
    clear he
    go_wp2
    go_ret
    exact⟨by rw[<-P.out] <;> rfl,rfl⟩
   have h1:(x == n)=false:=by rw[ArU];exact he
   have P:=hid (show ((L.drop (j+1)).any λy=>decide (y=n))=q from by have:=HP.out;rwa [decide_eq_false he,Bool.false_or] at this)
   clear he
   go_wp2
   go_round
   case rel=>exact⟨j+1,by omega,by go_num,P.out⟩
   case measure=>simp[intOf];omega
  obtain rfl:j=L.length:=by omega
  rw[List.drop_length] at hp
  have P:=hid (show false=q from hp)
  clear hp
  go_wp2
  go_ret
  exact⟨by rw[<-P.out] <;> rfl,rfl⟩
 --]
theorem NumsOr.of_own {A:Option Addr} {L0 M X Y:List Int} {y:Int} {w w':World} {base n m:Nat} {v:Value} (h:w'.ownsRow base 3 aF.m v (0+n+1+m) ([]++aF.all X++aF.all [y]++aF.all Y)) (hM:M=X++y :: Y) (hb:Below w.heap.size w w') (hbase:w.heap.size<=base):NumsOr A L0 M w (.returned v) w':=by
 have e:[]++aF.all X++aF.all [y]++aF.all Y=aF.all M:=by
  rw[List.nil_append,hM,aF.all_append,aF.all_one,aF.all_cons y Y,List.append_assoc]
 rw[e] at h
 have hlt:=h.lt
 obtain⟨hn,B,d,rfl,hc,hR⟩:=Lies.Row.of_own (E:=aF) h
 rw[hn] at hc hlt ⊢
 exact⟨B,d,rfl,hR,hc,hb,.inr λa ha=>by
  subst ha
  exact ArS hbase (hlt a.block rfl).1⟩
namespace Fl
theorem put_at {L:List Int} {n:Int} {K:Nat} (hK:(L.takeWhile λx=>decide (x<n)).length=K):put L n=if L[K]?=some n then L else L.take K++n :: L.drop K:=by
 subst hK
 unfold put
 rw[Dm.uL,Dm.nR,<-Dm.nR,List.getElem?_drop,Nat.add_zero,Dm.nR]
end Fl
theorem AhI (A:Option Addr) (c:Nat) (L:List Int) (n:Int) (w:World) (h:aF.Row w A L) (hl:L.length<=1000) (hc:L.length<=c) :
 Calls Tryz.prog 150 #[.slice A L.length c,.int .i64 n] w (NumsOr A L (Fl.put L n) w):=by
 --[
 have HR:=hid h
 have HK:=hid (λy=>(λh=>Dm.AbT (p:=λx=>decide (x<n)) (L:=L) (y:=y) h))
 have HK2:=hid (λ(j:Nat) (h:j<(L.takeWhile λx=>decide (x<n)).length)=>Dm.AlE (p:=λx=>decide (x<n)) (L:=L) h)
 have hkl:=Dm.ApB (λx=>decide (x<n)) L
 generalize hK:(L.takeWhile λx=>decide (x<n)).length=K at HK HK2 hkl
 have P0:=hid (Fl.put_at hK)
 obtain⟨i0',hi,hz0,hz1,hz2⟩:=info_parts fT
 clear h hK
 go_enter Tryz.func150,Tryz.ntmps150
 go_wp2_with fail
 go_loopw [5] (λv w'=>∃ j:Nat,j<=K/\v=.int .i64 j/\w'=w) (λv _=>L.length-(intOf v).toNat)
 case atStart=>exact⟨0,AsD _,rfl,rfl⟩
 case round =>
  obtain⟨j,hj,rfl,rfl⟩:=hrel
  have i0:(0:Int)<=(j:Int):=ArT j
  by_cases hjk:j<K
  ·obtain⟨y,hy,hlow⟩:=HK2.out j hjk
   have hlt:=(ArM hy).1
   obtain⟨b,o,rfl,hbb,on⟩:=HR.out.at hlt
   rw[(ArM hy).2] at on
   have c0:=eU on
   rw[show j*aF.m=j from Nat.mul_one j] at c0
   have D1:decide ((j:Int)<(L.length:Int))=true:=aC (by omega)
   have i1:(j:Int)<(L.length:Int):=by omega
   have D2:decide (y<n)=true:=hlow
   clear hy hlow on
   go_wp2
   go_roundw
   case rel=>exact⟨j+1,by omega,by go_num,trivial⟩
   case measure=>simp[intOf];omega
  obtain rfl:j=K:=by omega
  have ic:(j:Int)<=(c:Int):=by omega
  have il:(j:Int)<=(L.length:Int):=by omega
  have lc:(L.length:Int)<=(c:Int):=by omega
  have RW:=hid (λW (hW:Below wr.heap.size wr W)=>HR.out.below rfl hW)
  have P1:=P0.out
  by_cases hlt:j<L.length
  focus
   have hy:=ArN hlt
   obtain⟨b,o,rfl,hbb,on⟩:=HR.out.at hlt
   have D2:decide (L[j]<n)=false:=HK.out _ hy
   rw[hy] at P1
   generalize L[j]=y at hy on D2 P1
   have c0:=eU on
   rw[show j*aF.m=j from Nat.mul_one j] at c0
   have D1:decide ((j:Int)<(L.length:Int))=true:=aC (by omega)
   have i1:(j:Int)<(L.length:Int):=by omega
   clear hy on
   by_cases hyn:y=n
   ·have E:(y == n)=true:=by rw[beq_iff_eq];exact hyn
    rw[ArZ (by rw[hyn])] at P1
    have P:=hid P1
    clear hyn P1
    go_wp2
    go_ret
    rw[P.out]
    exact⟨_,c,rfl,HR.out,hc,Below.refl _ _,.inl ⟨rfl,rfl⟩⟩
   have E:(y == n)=false:=by rw[ArU];exact hyn
   rw[ArY (λh=>hyn (AsO h))] at P1
   have P:=hid P1
   clear hyn P1
   go_wp2_with fail
   clear c0 D2 hbb i1 E
  rotate_left
  focus
   have D1:decide ((j:Int)<(L.length:Int))=false:=aB (by omega)
   rw[List.getElem?_eq_none (by omega),ArY (by simp)] at P1
   have P:=hid P1
   clear P1
   go_wp2_with fail
  all_goals
   clear D1 hlt
   have B0:=hid (AtB wr).drew
   refine goesOn.region (S:=λ_ W=>Below wr.heap.size wr W) (by kernel_rfl) ?_
   refine goesOn.takes [(1,[]),(2,[]),(3,[]),(5,[]),(8,[]),(9,[]),(10,[])] B0.out ?_
   repeat (refine Takes.val (v:=?_) ?_ ?_;rotate_left;(focus (intro W hW;go_simp;try with_reducible rfl));(try simp only[Act.put,ArO,ArP,ArQ]))
   refine Takes.nil ?_
   have EO:=hid (pC wr.drew 3 aF.m rfl (ArR wr.heap.size))
   have EX:=hid ((AtB wr).drew.alloc (ArR wr.heap.size) (.cells #[] 3))
   refine goesOn.two 0 6 (λK hK=>?_) λK hK=>?_
   focus
    go_simp
    refine hK.out _ _ EX.out ?_
    clear hK K
    (try simp only[Act.put,ArO,ArP,ArQ])
    refine goesOn.two 4 6 (λK hK=>?_) λK hK=>?_
    focus
     refine aK aF (by rfl) (.tmp 33) (.tmp 36) 90 (by rfl) wr.heap.size 3 i0' _ 8 Tryz.underlying90 hi hz0 hz1 hz2 rfl _ 0 [] (by rfl) EO.out _ _ _ (L.take j) (by rfl) (by rw[AsU];omega) (Lies.Row.take aF (RW.out _ EX.out) j) (by unfold maxLen;omega) (by omega) EX.out.size ?_
     intro v1 w3 ho hg
     have B3:=EX.out.grown hg EX.out.size λk hk=>(EO.out.lt k hk).1
     refine hK.out _ _ B3 ?_
     clear hK K
     (try simp only[Act.put,ArO,ArP,ArQ])
     refine goesOn.one 6 λK hK=>?_
     go_simp
     have HX:=aF.row_lone (x:=n) (AsW w3 (.cells #[.int .i64 n] 3))
     have B5:=B3.alloc B3.size (.cells #[.int .i64 n] 3)
     replace ho:=ho.alloc (.cells #[.int .i64 n] 3)
     refine hK.out _ _ B5 ?_
     clear hK K hg B3
    rotate_left
    focus
     go_simp
     have E6:=EX.out.alloc EX.out.size (.cells #[.int .i64 n] 3)
     refine hK.out _ _ E6 ?_
     clear hK K
     (try simp only[Act.put,ArO,ArP,ArQ])
     refine goesOn.one 4 λK hK=>?_
     refine aK aF (by rfl) (.tmp 33) (.tmp 36) 90 (by rfl) wr.heap.size 3 i0' _ 8 Tryz.underlying90 hi hz0 hz1 hz2 rfl _ 0 [] (by rfl) (EO.out.alloc (.cells #[.int .i64 n] 3)) _ _ _ (L.take j) (by rfl) (by rw[AsU];omega) (Lies.Row.take aF (RW.out _ E6) j) (by unfold maxLen;omega) (by omega) E6.size ?_
     intro v1 w3 ho hg
     have hx:(wr.drew.alloc (.cells #[] 3)).heap.size=wr.heap.size+1:=by simp
     have HX:=aF.row_lone (x:=n) ((hg.block (wr.heap.size+1) (by simp) (λh=>by simp[Value.ownBlock] at h)).trans (hx ▸ AsW (wr.drew.alloc (.cells #[] 3)) (.cells #[.int .i64 n] 3)))
     have B5:=E6.grown hg E6.size λk hk=>(EO.out.lt k hk).1
     refine hK.out _ _ B5 ?_
     clear hK K hg E6 hx
   rotate_left 2
   focus
    go_simp
    have E6:=(AtB wr).drew.alloc (ArR wr.heap.size) (.cells #[.int .i64 n] 3)
    refine hK.out _ _ E6 ?_
    clear hK K
    (try simp only[Act.put,ArO,ArP,ArQ])
    refine goesOn.one 0 λK hK=>?_
    go_simp
    have E7:=E6.alloc E6.size (.cells #[] 3)
    refine hK.out _ _ E7 ?_
    clear hK K
    (try simp only[Act.put,ArO,ArP,ArQ])
    refine goesOn.one 4 λK hK=>?_
    have EP:=pC (base:=wr.heap.size) (g:=wr.heap.size+1) (wr.drew.alloc (.cells #[.int .i64 n] 3)) 3 aF.m (by simp) (by simp)
    refine aK aF (by rfl) (.tmp 33) (.tmp 36) 90 (by rfl) wr.heap.size 3 i0' _ 8 Tryz.underlying90 hi hz0 hz1 hz2 rfl _ 0 [] (by rfl) EP _ _ _ (L.take j) (by rfl) (by rw[AsU];omega) (Lies.Row.take aF (RW.out _ E7) j) (by unfold maxLen;omega) (by omega) E7.size ?_
    intro v1 w3 ho hg
    have HX:=aF.row_lone (x:=n) ((hg.block wr.heap.size (by simp;omega) (λh=>by simp[Value.ownBlock] at h)).trans ((Below.heap_alloc _ _ _ (by simp)).trans (AsW wr.drew (.cells #[.int .i64 n] 3))))
    have B5:=E7.grown hg E7.size λk hk=>(EP.lt k hk).1
    refine hK.out _ _ B5 ?_
    clear hK K hg E6 E7 EP
   all_goals
    (try simp only[Act.put,ArO,ArP,ArQ])
    refine goesOn.one 7 λK hK=>?_
    refine aK aF (by rfl) (.tmp 37) (.tmp 39) 90 (by rfl) wr.heap.size 3 i0' _ 8 Tryz.underlying90 hi hz0 hz1 hz2 rfl v1 (0+j) ([]++aF.all (L.take j)) (by rfl) ho _ 1 1 [n] (by rfl) rfl HX (by unfold maxLen;omega) (by omega) B5.size ?_
    intro v2 w7 ho2 hg2
    have B7:=B5.grown hg2 B5.size λk hk=>(ho.lt k hk).1
    refine hK.out _ _ B7 ?_
    clear hK K
    (try simp only[Act.put,ArO,ArP,ArQ])
    refine goesOn.one 11 λK hK=>?_
    refine aK aF (by rfl) (.tmp 40) (.tmp 43) 90 (by rfl) wr.heap.size 3 i0' _ 8 Tryz.underlying90 hi hz0 hz1 hz2 rfl v2 (0+j+1) ([]++aF.all (L.take j)++aF.all [n]) (by rfl) ho2 _ _ _ (L.drop j) (by rfl) List.length_drop (by first|(have h:=(RW.out _ B7).low hc j;rw[show j*aF.m=j from Nat.mul_one j] at h;exact h)|(have h:=(RW.out _ B7).low' hc j;rw[show j*aF.m=j from Nat.mul_one j] at h;exact h)) (by unfold maxLen;omega) (by omega) B7.size ?_
    intro v3 w8 ho3 hg3
    have B8:=hid (B7.grown hg3 B7.size λk hk=>(ho2.lt k hk).1)
    refine hK.out _ _ B8.out ?_
    have HO:=hid ho3
    clear hK K ho hg2 ho2 hg3 ho3 HX B5 B7
    (try simp only[Act.put,ArO,ArP,ArQ])
    refine goesOn.one 12 λK hK=>?_
    go_simp
    refine hK.out _ _ B8.out ?_
    clear hK K
    (try simp only[Act.put,ArO,ArP,ArQ])
    refine goesOn.done (by kernel_rfl) ?_ _
    go_wp2_with fail
    all_goals
     go_ret
     rw[P.out]
     exact NumsOr.of_own HO.out rfl B8.out (ArR _)
 --]
open Go.RowKit
abbrev ApX (p:Pl.Plan) (A:Option Addr) (c:Nat) (A':Option Addr) (c':Nat) (B:Option Addr) (d n:Nat) (v7 v8 v9:Value):Obj:=.cells #[.int .i64 p.ov,.int .i64 p.ap,.int .i64 p.se,.int .i64 p.ho,.slice A p.secs.length c,.slice A' p.sigs.length c',.slice B n d,v7,v8,v9] 180
structure GrdV where
 B1:Option Addr
 d1:Nat
 B2:Option Addr
 d2:Nat
 v:Value
structure GrdAt (p:Pl.Plan) (A:Option Addr) (c:Nat) (A':Option Addr) (c':Nat) (B:Option Addr) (d n:Nat) (G:Nat) (w0 wr:World) (V:GrdV) (g:Fl.G):Prop where
 below:Below w0.heap.size w0 wr
 hG:w0.heap.size<=G
 at_:wr.heap[G]?=some (ApX p A c A' c' B d n (.slice V.B1 g.pts.length V.d1) (.slice V.B2 g.fl.length V.d2) V.v)
 pts:aJ.Row wr V.B1 g.pts
 fl:aF.Row wr V.B2 g.fl
 l1:g.pts.length<=V.d1
 l2:g.fl.length<=V.d2
 seen:wr.ownsRow (G+1) 3 aF.m V.v g.seen.length (aF.all g.seen)
 n1:g.pts≠[]->∀ a,V.B1=some a->a.block≠G/\V.v.ownBlock≠some a.block/\a.block<wr.heap.size/\w0.heap.size<=a.block
 n2:g.fl≠[]->∀ a,V.B2=some a->a.block≠G/\V.v.ownBlock≠some a.block/\a.block<wr.heap.size/\w0.heap.size<=a.block
def AlJ (p:Pl.Plan) (A:Option Addr) (c:Nat) (A':Option Addr) (c':Nat) (B:Option Addr) (d n:Nat) (G:Nat) (w0:World) (g:Fl.G) (e:Ending) (w':World):Prop :=
 e=.returned (.tuple #[])/\∃ V,GrdAt p A c A' c' B d n G w0 w' V g
section
variable {p : Pl.Plan} {A : Option Addr} {c : Nat} {A' : Option Addr} {c' : Nat} {B : Option Addr} {d n : Nat} {G : Nat} {w0 wr : World} {V : GrdV} {g : Fl.G}
theorem GrdAt.lt (h:GrdAt p A c A' c' B d n G w0 wr V g):G<wr.heap.size:=(ArL h.at_).1
theorem GrdAt.next {w2:World} (h:GrdAt p A c A' c' B d n G w0 wr V g) (hb:Below wr.heap.size wr w2):GrdAt p A c A' c' B d n G w0 w2 V g :=
 ⟨h.below.trans (hb.mono h.below.size),h.hG,(hb.block _ h.lt).trans h.at_,h.pts.below rfl hb,h.fl.below rfl hb,h.l1,h.l2,aA h.seen hb,
  λhz a ha=>⟨(h.n1 hz a ha).1,(h.n1 hz a ha).2.1,AsE (h.n1 hz a ha).2.2.1 hb.size,(h.n1 hz a ha).2.2.2⟩,λhz a ha=>⟨(h.n2 hz a ha).1,(h.n2 hz a ha).2.1,AsE (h.n2 hz a ha).2.2.1 hb.size,(h.n2 hz a ha).2.2.2⟩⟩
theorem GrdAt.own_lt (h:GrdAt p A c A' c' B d n G w0 wr V g) {k:Nat} (hk:V.v.ownBlock=some k):k<wr.heap.size:=(h.seen.lt k hk).2
theorem row10f {w:World} {g:Nat} {a b c d e f i j k l:Value} {t:TypeId} (h:w.heap[g]?=some (.cells #[a,b,c,d,e,f,i,j,k,l] t (0,0))) :
 (w.cell? ⟨g,0,none⟩=some a/\w.cell? ⟨g,1,none⟩=some b/\w.cell? ⟨g,2,none⟩=some c/\w.cell? ⟨g,3,none⟩=some d/\w.cell? ⟨g,4,none⟩=some e/\w.cell? ⟨g,5,none⟩=some f/\w.cell? ⟨g,6,none⟩=some i/\w.cell? ⟨g,7,none⟩=some j/\w.cell? ⟨g,8,none⟩=some k/\w.cell? ⟨g,9,none⟩=some l) /\
 (w.frozen? ⟨g,7,none⟩=false/\w.frozen? ⟨g,8,none⟩=false/\w.frozen? ⟨g,9,none⟩=false)/\g<w.heap.size :=
 ⟨⟨AsY w g 0 _ t _ h,AsY w g 1 _ t _ h,AsY w g 2 _ t _ h,AsY w g 3 _ t _ h,AsY w g 4 _ t _ h,AsY w g 5 _ t _ h,AsY w g 6 _ t _ h,AsY w g 7 _ t _ h,AsY w g 8 _ t _ h,AsY w g 9 _ t _ h⟩,
   ⟨AsZ w g 7 _ t h,AsZ w g 8 _ t h,AsZ w g 9 _ t h⟩,(ArL h).1⟩
theorem GrdAt.setPts {L:List Dm.Dem} {B1:Option Addr} {d1:Nat} {w2:World} (h:GrdAt p A c A' c' B d n G w0 wr V g) (hb:Below wr.heap.size wr w2) (hR:aJ.Row w2 B1 L) (hl:L.length<=d1) (hn:(B1=V.B1/\L=g.pts)∨∀ a,B1=some a->wr.heap.size<=a.block) (hlt:L≠[]->∀ a,B1=some a->a.block<w2.heap.size) :
 GrdAt p A c A' c' B d n G w0 (w2.setCell ⟨G,7,none⟩ (.slice B1 L.length d1)) ⟨B1,d1,V.B2,V.d2,V.v⟩ { g with pts:=L }:=by
 have hG:=h.lt
 have hV:∀ k,V.v.ownBlock=some k->k<wr.heap.size:=λk hk=>h.own_lt hk
 obtain⟨h1,h2,h3,h4,h5,h6,h7,h8,h9,h10⟩:=h.next hb
 have q1:L≠[]->∀ a,B1=some a->a.block≠G/\V.v.ownBlock≠some a.block/\a.block<w2.heap.size/\w0.heap.size<=a.block:=λhz a ha=>by
  rcases hn with ⟨hn,hn2⟩|hn
  ·exact h9 (hn2 ▸ hz) a (hn ▸ ha)
  have:=hn a ha
  exact⟨by omega,λe=>by have:=hV _ e;omega,hlt hz a ha,by have:=h.below.size;omega⟩
 refine⟨h1.setCell h2 _,h2,?_,hR.kept (by simp) λhz a ha=>AsX _ _ _ _ (q1 hz a ha).1,h5.kept (by simp) λhz a ha=>AsX _ _ _ _ (h10 hz a ha).1,hl,h7,aL h8 λb hb=>AsX _ _ _ _ λe=>?_,λhz a ha=>⟨(q1 hz a ha).1,(q1 hz a ha).2.1,by simpa using (q1 hz a ha).2.2.1,(q1 hz a ha).2.2.2⟩,λhz a ha=>⟨(h10 hz a ha).1,(h10 hz a ha).2.1,by simpa using (h10 hz a ha).2.2.1,(h10 hz a ha).2.2.2⟩⟩
 ·rw[AtA _ _ _ _ _ _ h3];rfl
 have:=(h8.lt b hb).1
 have e':b=G:=e
 omega
theorem GrdAt.setFl {L:List Int} {B2:Option Addr} {d2:Nat} {w2:World} (h:GrdAt p A c A' c' B d n G w0 wr V g) (hb:Below wr.heap.size wr w2) (hR:aF.Row w2 B2 L) (hl:L.length<=d2) (hn:(B2=V.B2/\L=g.fl)∨∀ a,B2=some a->wr.heap.size<=a.block) (hlt:L≠[]->∀ a,B2=some a->a.block<w2.heap.size) :
 GrdAt p A c A' c' B d n G w0 (w2.setCell ⟨G,8,none⟩ (.slice B2 L.length d2)) ⟨V.B1,V.d1,B2,d2,V.v⟩ { g with fl:=L }:=by
 have hG:=h.lt
 have hV:∀ k,V.v.ownBlock=some k->k<wr.heap.size:=λk hk=>h.own_lt hk
 obtain⟨h1,h2,h3,h4,h5,h6,h7,h8,h9,h10⟩:=h.next hb
 have q1:L≠[]->∀ a,B2=some a->a.block≠G/\V.v.ownBlock≠some a.block/\a.block<w2.heap.size/\w0.heap.size<=a.block:=λhz a ha=>by
  rcases hn with ⟨hn,hn2⟩|hn
  ·exact h10 (hn2 ▸ hz) a (hn ▸ ha)
  have:=hn a ha
  exact⟨by omega,λe=>by have:=hV _ e;omega,hlt hz a ha,by have:=h.below.size;omega⟩
 refine⟨h1.setCell h2 _,h2,?_,h4.kept (by simp) λhz a ha=>AsX _ _ _ _ (h9 hz a ha).1,hR.kept (by simp) λhz a ha=>AsX _ _ _ _ (q1 hz a ha).1,h6,hl,aL h8 λb hb=>AsX _ _ _ _ λe=>?_,λhz a ha=>⟨(h9 hz a ha).1,(h9 hz a ha).2.1,by simpa using (h9 hz a ha).2.2.1,(h9 hz a ha).2.2.2⟩,λhz a ha=>⟨(q1 hz a ha).1,(q1 hz a ha).2.1,by simpa using (q1 hz a ha).2.2.1,(q1 hz a ha).2.2.2⟩⟩
 ·rw[AtA _ _ _ _ _ _ h3];rfl
 have:=(h8.lt b hb).1
 have e':b=G:=e
 omega
theorem GrdAt.clear (h:GrdAt p A c A' c' B d n G w0 wr V g):GrdAt p A c A' c' B d n G w0 (wr.setCell ⟨G,9,none⟩ (.slice none 0 0)) ⟨V.B1,V.d1,V.B2,V.d2,.slice none 0 0⟩ { g with seen:=[] }:=by
 obtain⟨h1,h2,h3,h4,h5,h6,h7,h8,h9,h10⟩:=h
 refine⟨h1.setCell h2 _,h2,?_,h4.kept (by simp) λhz a ha=>AsX _ _ _ _ (h9 hz a ha).1,h5.kept (by simp) λhz a ha=>AsX _ _ _ _ (h10 hz a ha).1,h6,h7,⟨rfl,.inl ⟨rfl,rfl⟩⟩,λhz a ha=>⟨(h9 hz a ha).1,(λe=>by cases e),by simpa using (h9 hz a ha).2.2.1,(h9 hz a ha).2.2.2⟩,λhz a ha=>⟨(h10 hz a ha).1,(λe=>by cases e),by simpa using (h10 hz a ha).2.2.1,(h10 hz a ha).2.2.2⟩⟩
 rw[AtA _ _ _ _ _ _ h3];rfl
theorem GrdAt.see {q:Int} {w2 w4:World} {v':Value} (h:GrdAt p A c A' c' B d n G w0 wr V g) (hb:Below wr.heap.size wr w2) (hown:w4.ownsRow (G+1) 3 aF.m v' (g.seen.length+1) (aF.all g.seen++aF.all [q])) (hg:w2.grownBy w4 V.v.ownBlock) (hv:∀ k,v'.ownBlock=some k->V.v.ownBlock=some k∨wr.heap.size<=k) :
 GrdAt p A c A' c' B d n G w0 (w4.setCell ⟨G,9,none⟩ v') ⟨V.B1,V.d1,V.B2,V.d2,v'⟩ { g with seen:=g.seen++[q] }:=by
 have hGl:=h.lt
 have k1:=h.n1
 have k2:=h.n2
 obtain⟨h1,h2,h3,h4,h5,h6,h7,h8,h9,h10⟩:=h.next hb
 have hs:w2.heap.size<=w4.heap.size:=hg.size
 have e3:w4.heap[G]?=w2.heap[G]?:=hg.block G (by have:=hb.size;omega) (λe=>by have:=(h8.lt G e.symm).1;omega)
 refine⟨((h1.grown hg (by have:=h1.size;omega) λk hk=>?_).setCell h2 _),h2,?_,h4.kept (by simp;omega) λhz a ha=>(AsX _ _ _ _ (h9 hz a ha).1).trans (hg.block _ (h9 hz a ha).2.2.1 λe=>(h9 hz a ha).2.1 e.symm),h5.kept (by simp;omega) λhz a ha=>(AsX _ _ _ _ (h10 hz a ha).1).trans (hg.block _ (h10 hz a ha).2.2.1 λe=>(h10 hz a ha).2.1 e.symm),h6,h7,?_,λhz a ha=>⟨(h9 hz a ha).1,λe=>?_,by have:=(h9 hz a ha).2.2.1;simp;omega,(h9 hz a ha).2.2.2⟩,λhz a ha=>⟨(h10 hz a ha).1,λe=>?_,by have:=(h10 hz a ha).2.2.1;simp;omega,(h10 hz a ha).2.2.2⟩⟩
 ·have:=(h8.lt k hk).1;omega
 ·rw[AtA _ _ _ _ _ _ (e3.trans h3)];rfl
 ·refine aL ?_ λb hb=>AsX _ _ _ _ λe=>?_
  ·show w4.ownsRow (G+1) 3 aF.m v' (g.seen++[q]).length (aF.all (g.seen++[q]))
   rw[ArV,aF.all_append];exact hown
  have:=(hown.lt b hb).1
  have e':b=G:=e
  omega
 ·rcases hv _ e with e|e
  ·exact(h9 hz a ha).2.1 e
  have:=(k1 hz a ha).2.2.1;omega
 rcases hv _ e with e|e
 ·exact(h10 hz a ha).2.1 e
 have:=(k2 hz a ha).2.2.1;omega
end
end Go.Proofs.YtjofpclmbjpgjaaGreat
