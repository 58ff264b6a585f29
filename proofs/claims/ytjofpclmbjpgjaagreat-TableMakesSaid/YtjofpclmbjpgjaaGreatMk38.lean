/- Lemmas. -/
import Derived.Test.YtjofpclmbjpgjaaGreatMk37
set_option maxHeartbeats 16000000
set_option maxRecDepth 100000
namespace Go.Proofs.YtjofpclmbjpgjaaGreat
open Lib (hid)
open Go.RowKit
abbrev pX (p:Pl.Plan) (A:Option Addr) (c:Nat) (A':Option Addr) (c':Nat) (b:Int) (v:Value) (n:Nat) (u:Value):Obj:=.cells #[.int .i64 p.ov,.int .i64 p.ap,.int .i64 p.se,.int .i64 p.ho,.slice A p.secs.length c,.slice A' p.sigs.length c',.int .i64 b,v,.int .i64 n,u] 158
def FindAt (p:Pl.Plan) (A:Option Addr) (c:Nat) (A':Option Addr) (c':Nat) (b:Int) (v:Value) (g:Nat) (w0 wr:World) (n:Nat) (u:Value):Prop :=
 Below w0.heap.size w0 wr/\w0.heap.size<=g/\wr.heap[g]?=some (pX p A c A' c' b v n u)
abbrev sN (x:Option Nat) (w w':World):Prop:=Seeks 158 158 x w w'
def bR (p:Pl.Plan) (A:Option Addr) (c:Nat) (A':Option Addr) (c':Nat) (b:Int) (v:Value) (g:Nat) (w0:World) (r:Option (List Wk.Stp) × Nat) (B:Option Addr) (d:Nat) (st:List Wk.Stp) (u:Value) (w:World) (e:Ending) (w':World):Prop :=
 (400<r.2/\e=.returned (.bool true)/\∃ m u',400<m/\FindAt p A c A' c' b v g w0 w' m u') ∨
 (r.2<=400/\r.1=none/\e=.returned (.bool false)/\FindAt p A c A' c' b v g w0 w' r.2 u/\OwnS w0.heap.size w' B d st/\sN (blk B) w w') ∨
 (r.2<=400/\∃ l B' d',r.1=some l/\e=.returned (.bool true)/\FindAt p A c A' c' b v g w0 w' r.2 (.slice B' l.length d')/\OwnS w0.heap.size w' B' d' l)
theorem frow10 {w:World} {g:Nat} {a b c d e f i j k l:Value} {t:TypeId} (h:w.heap[g]?=some (.cells #[a,b,c,d,e,f,i,j,k,l] t (0,0))) :
 (w.cell? ⟨g,0,none⟩=some a/\w.cell? ⟨g,1,none⟩=some b/\w.cell? ⟨g,2,none⟩=some c/\w.cell? ⟨g,3,none⟩=some d/\w.cell? ⟨g,4,none⟩=some e/\w.cell? ⟨g,5,none⟩=some f/\w.cell? ⟨g,6,none⟩=some i/\w.cell? ⟨g,7,none⟩=some j/\w.cell? ⟨g,8,none⟩=some k/\w.cell? ⟨g,9,none⟩=some l) /\
 (w.frozen? ⟨g,8,none⟩=false/\w.frozen? ⟨g,9,none⟩=false)/\g<w.heap.size :=
 ⟨⟨AsY w g 0 _ t _ h,AsY w g 1 _ t _ h,AsY w g 2 _ t _ h,AsY w g 3 _ t _ h,AsY w g 4 _ t _ h,AsY w g 5 _ t _ h,AsY w g 6 _ t _ h,AsY w g 7 _ t _ h,AsY w g 8 _ t _ h,AsY w g 9 _ t _ h⟩,
   ⟨AsZ w g 8 _ t h,AsZ w g 9 _ t h⟩,(ArL h).1⟩
section
variable {p : Pl.Plan} {A : Option Addr} {c : Nat} {A' : Option Addr} {c' : Nat} {b : Int} {v u : Value} {g : Nat} {w0 wr : World} {n : Nat}
theorem FindAt.below {w2:World} (hh:FindAt p A c A' c' b v g w0 wr n u) (hb:Below wr.heap.size wr w2):FindAt p A c A' c' b v g w0 w2 n u:=by
 obtain⟨h1,h2,h3⟩:=hh
 exact⟨h1.trans (hb.mono h1.size),h2,(hb.block _ (ArL h3).1).trans h3⟩
theorem FindAt.came (hh:FindAt p A c A' c' b v g w0 wr n u):FindAt p A c A' c' b v g w0 (wr.setCell ⟨g,8,none⟩ (.int .i64 ((n:Int)+1))) (n+1) u/\Tame 158 158 wr (wr.setCell ⟨g,8,none⟩ (.int .i64 ((n:Int)+1))):=by
 obtain⟨h1,h2,h3⟩:=hh
 refine⟨⟨h1.setCell h2 _,h2,?_⟩,iE h3⟩
 rw[AtA _ _ _ _ _ _ h3]
 rfl
theorem FindAt.met (hh:FindAt p A c A' c' b v g w0 wr n u) (u':Value):FindAt p A c A' c' b v g w0 (wr.setCell ⟨g,9,none⟩ u') n u'/\Tame 158 158 wr (wr.setCell ⟨g,9,none⟩ u'):=by
 obtain⟨h1,h2,h3⟩:=hh
 refine⟨⟨h1.setCell h2 _,h2,?_⟩,iE h3⟩
 rw[AtA _ _ _ _ _ _ h3]
 rfl
theorem FindAt.grown {x:Option Nat} {w2:World} (hh:FindAt p A c A' c' b v g w0 wr n u) (hg:wr.grownBy w2 x) (hb:Below w0.heap.size w0 w2) (hx:∀ k,x=some k->∃ cs,wr.heap[k]?=some (.cells cs 129 (0,0))):FindAt p A c A' c' b v g w0 w2 n u:=by
 obtain⟨h1,h2,h3⟩:=hh
 refine⟨hb,h2,(hg.block g (ArL h3).1 λe=>?_).trans h3⟩
 obtain⟨cs,hc⟩:=hx g e.symm
 rw[h3] at hc
 injection hc with hc
 injection hc with _ hc _
 revert hc
 decide
theorem mN {way:List Wk.Stp} {Aw:Option Addr} {cw:Nat} (hway:aE.Row wr Aw way) (hwl:way.length<=1000) (s:Int) (st:List Wk.Stp) (B:Option Addr) (d:Nat) (hh:FindAt p A c A' c' b (.slice Aw way.length cw) g w0 wr n u) (hst:aE.Row wr B st) (hl:st.length<=16) :
 Calls Tryz.prog 135 #[.pointer (some ⟨g,0,none⟩),.slice B st.length d,.int .i64 s] wr (OneIs (.bool (Lp.bars b way st s)) wr):=by
 --[
 obtain⟨⟨-,-,-,-,-,-,p6,p7,-,-⟩,-,gg⟩:=frow10 hh.2.2
 have CW:=hid (bG Aw cw way s wr hway (by omega))
 have CS:=hid (λW (hb:Below wr.heap.size wr W)=>bG B d st s W (hst.below rfl hb) (by omega))
 have B0:=hid (AtB wr)
 clear hh hway hst
 by_cases hs:s=b
 ·have E:(s == b)=true:=by rw[beq_iff_eq];exact hs
  have P:=hid (show Lp.bars b way st s=true by unfold Lp.bars;rw[decide_eq_true hs];rfl)
  clear hs
  go_enter Tryz.func135,Tryz.ntmps135
  go_wp2
  go_ret
  exact⟨by rw[P.out];rfl,B0.out⟩
 have E:(s == b)=false:=by rw[ArU];exact hs
 have P:=hid (show Lp.bars b way st s=(Wk.within way s || Wk.within st s) by unfold Lp.bars;rw[decide_eq_false hs];rfl)
 clear hs
 cases hw:Wk.within way s with
 | true =>
   rw[hw] at CW P
   go_enter Tryz.func135,Tryz.ntmps135
   go_wp2_with fail
   refine CW.out.mono ?_;rintro e w1 ⟨rfl,hb1⟩
   have B1:=hid hb1
   clear hb1
   go_wp2
   go_ret
   exact⟨by rw[P.out];rfl,B1.out⟩
 | false =>
   rw[hw] at CW P
   generalize Wk.within st s=q at CS P
   go_enter Tryz.func135,Tryz.ntmps135
   go_wp2_with fail
   refine CW.out.mono ?_;rintro e w1 ⟨rfl,hb1⟩
   have B1:=hid hb1
   clear hb1
   go_wp2_with fail
   refine(CS.out _ B1.out).mono ?_;rintro e w2 ⟨rfl,hb2⟩
   have B2:=hid (B1.out.trans (hb2.mono B1.out.size))
   clear hb2
   go_wp2
   go_ret
   exact⟨by rw[P.out,Bool.false_or];rfl,B2.out⟩
 --]
theorem kP {way:List Wk.Stp} {Aw:Option Addr} {cw:Nat} (hway:aE.Row w0 Aw way) (hwl:way.length<=1000) (s f:Int) (st:List Wk.Stp) (B:Option Addr) (d:Nat) (hh:FindAt p A c A' c' b (.slice Aw way.length cw) g w0 wr n u) (ho:OwnS w0.heap.size wr B d st) (hl:st.length<=16) (ht:n<=1000000)
 (hT:(decide (400<n+1) || Lp.bars b way st s)=true∨st.length=16) :
 Calls Tryz.prog 102 #[.pointer (some ⟨g,0,none⟩),.slice B st.length d,.int .i64 s,.int .i64 f] wr (bR p A c A' c' b (.slice Aw way.length cw) g w0 (none,n+1) B d st u wr):=by
 --[
 obtain⟨⟨-,-,-,-,-,-,-,-,p8,-⟩,⟨f8,-⟩,gg⟩:=frow10 hh.2.2
 have q1:IntKind.i64.wrap ((n:Int)+1)=(n:Int)+1:=IntWalk.i64_in _ (by omega)
 have HC:=hid hh.came
 have OC:=hid (aX ho HC.out.2 (by decide) (by decide))
 have CB:=hid (mN (hway.below rfl HC.out.1.1) hwl s st B d HC.out.1 (OwnS.row OC.out) hl)
 clear hh ho hway
 by_cases hm:400<n+1
 ·have D:decide (400<(n:Int)+1)=true:=aC (by omega)
  have FIN:=hid (show bR p A c A' c' b (.slice Aw way.length cw) g w0 (none,n+1) B d st u wr (.returned (.bool true)) (wr.setCell ⟨g,8,none⟩ (.int .i64 ((n:Int)+1))) from .inl ⟨hm,rfl,n+1,u,hm,HC.out.1⟩)
  clear hT hm
  go_enter Tryz.func102,Tryz.ntmps102
  go_wp2
  go_ret
  exact FIN.out
 have D:decide (400<(n:Int)+1)=false:=aB (by omega)
 have FIN:=hid (λW (hb:Below (wr.setCell ⟨g,8,none⟩ (.int .i64 ((n:Int)+1))).heap.size (wr.setCell ⟨g,8,none⟩ (.int .i64 ((n:Int)+1))) W)=>show bR p A c A' c' b (.slice Aw way.length cw) g w0 (none,n+1) B d st u wr (.returned (.bool false)) W from
  .inr (.inl ⟨by simp only;omega,rfl,rfl,HC.out.1.below hb,aA OC.out hb,(HC.out.2.trans (Below.tame hb _ _)).seeks _⟩))
 have B0:=hid (Below.refl (wr.setCell ⟨g,8,none⟩ (.int .i64 ((n:Int)+1))).heap.size (wr.setCell ⟨g,8,none⟩ (.int .i64 ((n:Int)+1))))
 by_cases h16:st.length=16
 ·have E:((st.length:Int) == 16)=true:=by rw[beq_iff_eq];omega
  clear hT hm h16
  go_enter Tryz.func102,Tryz.ntmps102
  go_wp2
  go_ret
  exact FIN.out _ B0.out
 have E:((st.length:Int) == 16)=false:=by rw[ArU];omega
 have hbr:Lp.bars b way st s=true:=by
  rcases hT with hT|hT
  ·rw[decide_eq_false hm,Bool.false_or] at hT;exact hT
  exact absurd hT h16
 rw[hbr] at CB
 clear hT hm h16 hbr
 go_enter Tryz.func102,Tryz.ntmps102
 go_wp2_with fail
 refine CB.out.mono ?_;rintro e w1 ⟨rfl,hb1⟩
 have B1:=hid hb1
 clear hb1
 go_wp2
 go_ret
 exact FIN.out _ B1.out
 --]
end
open Go.RowKit
theorem vJ (p:Pl.Plan) (hm:Lp.Meas p) (A:Option Addr) (c:Nat) (A':Option Addr) (c':Nat) (L:List Wk.Stp) (B:Option Addr) (d:Nat) (w:World) (h:PlanIn w p A A') (hL:aE.Row w B L) (hl:L.length<=1000) :
 Calls Tryz.prog 154 #[aR p A c A' c',.slice B L.length d] w λe w'=>e=.returned (.int .i64 (Lp.len p L))/\Below w.heap.size w w':=by
 --[
 have XA:=(AtB w).alloc (ArR _) (aD p A c A' c')
 have X0:=hid XA
 have RP:=hid (AsW w (aD p A c A' c'))
 have gp:=(ArL RP.out).1
 have HI:=hid (h.below XA)
 have HL:=hid (hL.below rfl XA)
 have KP:=hid (λW (hW:Below (w.alloc (aD p A c A' c')).heap.size (w.alloc (aD p A c A' c')) W)=>(row6 ((hW.block _ gp).trans RP.out)).1)
 have T0:=hid (Below.refl (w.alloc (aD p A c A' c')).heap.size (w.alloc (aD p A c A' c')))
 have HM:=hid hm
 clear XA h hL hm
 go_enter Tryz.func154,Tryz.ntmps154
 go_upto_region 2 with fail
 generalize w.alloc (aD p A c A' c')=w1 at X0 RP gp HI HL KP T0 ⊢
 go_wp2_with fail
 go_loopw [5,10] (λv1 v2 w'=>∃ k:Nat,k<=L.length/\v1=.int .i64 (Lp.len p (L.take k))/\v2=.int .i64 k/\Below w1.heap.size w1 w') (λ_ v2 _=>L.length-(intOf v2).toNat)
 case atStart=>exact⟨0,AsD _,rfl,rfl,T0.out⟩
 case round =>
  obtain⟨k,hk,rfl,rfl,hB⟩:=hrel
  have HB:=hid hB
  clear hB
  by_cases hlt:k<L.length
  ·have hy:=ArN hlt
   obtain⟨b1,o1,rfl,g1,on⟩:=(HL.out.below rfl HB.out).at hlt
   generalize L[k]=y at hy on
   obtain⟨r0,r1,r2⟩:=bL on
   rw[show k*aE.m=k*3 from rfl] at r0 r1 r2
   have d1:decide ((k:Int)<(L.length:Int))=true:=aC (by omega)
   have HN:=hid (Lp.len_take (p:=p) hy)
   have hlb:=Lp.len_bd HM.out (L.take k)
   have htk:(L.take k).length<=1000:=by rw[AsU];omega
   have hsb:=Lp.secLen_bd HM.out y.s
   clear hy on
   obtain⟨s,f,t⟩:=y
   simp only at r0 r1 r2 hsb HN
   have RX:=hid (AsW wr (.cells #[.int .i64 s,.int .i64 f,.int .i64 t] 129))
   have HX:=hid (HB.out.alloc HB.out.size (.cells #[.int .i64 s,.int .i64 f,.int .i64 t] 129))
   go_upto_region 5 with fail
   generalize wr.alloc (.cells #[.int .i64 s,.int .i64 f,.int .i64 t] 129)=w2 at RX HX ⊢
   generalize wr.heap.size=gx at RX ⊢
   clear r0 r1 r2
   obtain⟨⟨t0,t1,t2⟩,-,-⟩:=row3 RX.out
   obtain⟨p0,p1,p2,p3,p4,p5⟩:=KP.out _ HX.out
   rcases Wk.sec_ways p s with ⟨hs,hn⟩|⟨i,rfl,⟨hs,hn⟩|⟨x,hx,hn⟩⟩
   ·have D0:decide (0<=s)=false:=aB (by omega)
    have E:Lp.secLen p s=0:=by unfold Lp.secLen;rw[hn]
    rw[E,Int.add_zero] at HN
    clear hs hn hlb htk hsb E
    go_wp2
    go_roundw
    case rel=>exact⟨k+1,by omega,by rw[HN.out],by go_num,HX.out⟩
    case measure=>simp[intOf];omega
   ·have D0:decide (0<=(i:Int))=true:=aC (by omega)
    have D1:decide ((i:Int)<(p.secs.length:Int))=false:=aB (by omega)
    have N1:¬ i<p.secs.length:=by omega
    have E:Lp.secLen p (i:Int)=0:=by unfold Lp.secLen;rw[hn]
    rw[E,Int.add_zero] at HN
    clear hs hn hlb htk hsb E
    go_wp2
    go_roundw
    case rel=>exact⟨k+1,by omega,by rw[HN.out],by go_num,HX.out⟩
    case measure=>simp[intOf];omega
   have hil:=(ArM hx).1
   have D0:decide (0<=(i:Int))=true:=aC (by omega)
   obtain⟨D1,i0,i1⟩:=ArK (show i<p.secs.length by omega)
   obtain⟨bS,oS,rfl,gS,onS⟩:=bQ (HI.out.below HX.out).1 hx
   have onl:=(bE onS).2.2.1
   rw[show x.len=Lp.secLen p (i:Int) from(Lp.secLen_at hx).symm] at onl
   have q:IntKind.i64.wrap (Lp.len p (L.take k)+Lp.secLen p (i:Int))=Lp.len p (L.take k)+Lp.secLen p (i:Int):=IntWalk.i64_in _ (by omega)
   have HE:=hid (show Lp.len p (L.take k)+Lp.secLen p (i:Int)=Lp.len p (L.take (k+1)) from HN.out.symm)
   generalize Lp.secLen p (i:Int)=sl at onl q HE
   clear hn hx hlb htk hsb onS HN
   go_wp2
   go_roundw
   case rel=>exact⟨k+1,by omega,by rw[HE.out],by go_num,HX.out⟩
   case measure=>simp[intOf];omega
  obtain rfl:k=L.length:=by omega
  have d1:decide ((L.length:Int)<(L.length:Int))=false:=aB (by omega)
  rw[List.take_length]
  go_wp2
  go_ret
  exact⟨rfl,X0.out.trans (HB.out.mono X0.out.size)⟩
 --]
def Lp.one (p:Pl.Plan) (go:Int->Int->List Wk.Stp->Nat->Option (List Wk.Stp) × Nat) (s sum:Int) (st:List Wk.Stp) (x:Wk.Stp) (n:Nat):Option (List Wk.Stp) × Nat :=
 if Lp.lasts p sum s x then(some (st++[x]),n) else go (Wk.next p s x.t).1 (Wk.next p s x.t).2.1 (st++[x]) n
def AdA (p:Pl.Plan) (A:Option Addr) (c:Nat) (A':Option Addr) (c':Nat) (b:Int) (way:List Wk.Stp) (Aw:Option Addr) (cw g:Nat) (w0:World) (k:Nat):Prop :=
 ∀ (s f:Int) (st:List Wk.Stp) (B:Option Addr) (d:Nat) (u:Value) (n:Nat) (wr:World),FindAt p A c A' c' b (.slice Aw way.length cw) g w0 wr n u->OwnS w0.heap.size wr B d st->st.length+k=16->n<=400 ->
   Calls Tryz.prog 102 #[.pointer (some ⟨g,0,none⟩),.slice B st.length d,.int .i64 s,.int .i64 f] wr (bR p A c A' c' b (.slice Aw way.length cw) g w0 (Lp.enter p b way k s f st (Lp.len p st) n) B d st u wr)
theorem Lp.lasts_len {p:Pl.Plan} {s:Int} {st:List Wk.Stp} {x:Wk.Stp} {n2:Bool} (hx:x.s=s) (hn:(Wk.next p s x.t).2.2=n2):Lp.lasts p (Lp.len p st+Lp.secLen p s) s x=(!n2 || decide (p.ov<=Lp.len p (st++[x]))):=by
 unfold Lp.lasts
 rw[hn,Lp.len_snoc,hx]
section
variable {p : Pl.Plan} {A : Option Addr} {c : Nat} {A' : Option Addr} {c' : Nat} {b : Int} {u : Value} {g : Nat} {w0 wr : World} {n : Nat} {way : List Wk.Stp} {Aw : Option Addr} {cw : Nat}
theorem zD (hI:PlanIn w0 p A A') (hm:Lp.Meas p) (hsl:p.secs.length<=24) (k:Nat) (IH:AdA p A c A' c' b way Aw cw g w0 k) (s:Int) (st:List Wk.Stp) (x:Wk.Stp) (hx:x.s=s) (B:Option Addr) (d:Nat) (hh:FindAt p A c A' c' b (.slice Aw way.length cw) g w0 wr n u) (ho:OwnS w0.heap.size wr B d (st++[x])) (hl:st.length+(k+1)=16) (hn4:n<=400) (N:Nat) (hN:N=st.length+1) :
 Calls Tryz.prog 136 #[.pointer (some ⟨g,0,none⟩),.slice B N d] wr (bR p A c A' c' b (.slice Aw way.length cw) g w0 (Lp.one p (λs' f' st' n'=>Lp.enter p b way k s' f' st' (Lp.len p st+Lp.secLen p s) n') s (Lp.len p st+Lp.secLen p s) st x n) B d (st++[x]) u wr):=by
 generalize hr:Lp.one p (λs' f' st' n'=>Lp.enter p b way k s' f' st' (Lp.len p st+Lp.secLen p s) n') s (Lp.len p st+Lp.secLen p s) st x n=r
 have HR:=hid hr
 clear hr
 have hlen:(st++[x]).length=N:=by rw[ArV,hN];rfl
 have ho':wr.ownsRow w0.heap.size 129 3 (.slice B N d) N (aE.all (st++[x])):=by have:=ho;unfold OwnS at this;rwa [hlen] at this
 obtain⟨bb,cp,hB,-,-⟩:=ho'.form (by omega)
 obtain rfl:B=some ⟨bb,0,none⟩:=by cases hB;rfl
 have on:=Lies.own_on (E:=aE) (g:=bb) ho' (k:=st.length) (y:=x) (by rw[List.getElem?_append_right (ArR _),Nat.sub_self];rfl)
 obtain⟨a0,a1,a2⟩:=bL on
 rw[show st.length*aE.m=st.length*3 from rfl] at a0 a1 a2
 have hbb:=(own_lt ho bb rfl).2
 have gg:=(ArL hh.2.2).1
 have q1:IntKind.i64.wrap ((N:Int)-1)=(st.length:Int):=by rw[IntWalk.i64_in _ (by omega)];omega
 have HH:=hid hh
 have HO:=hid ho
 have HI:=hid hI
 have HM:=hid hm
 have HIH:=hid IH
 have HL:=hid hl
 have H4:=hid hn4
 have HN:=hid hlen
 have hN16:N<=16:=by omega
 have l1:st.length<N:=by omega
 have l2:(st.length:Int)<(N:Int):=by omega
 have l3:decide ((st.length:Int)<(N:Int))=true:=aC l2
 have HX0:=hid hx
 clear hh ho ho' hI hm IH hl hn4 hlen hN on hB hx
 have X1:=(AtB wr).alloc (ArR _) (.cells #[.int .i64 x.s,.int .i64 x.f,.int .i64 x.t] 129)
 have HX:=hid X1
 have RX:=hid (AsW wr (.cells #[.int .i64 x.s,.int .i64 x.f,.int .i64 x.t] 129))
 have KS:=hid (λW (hb:Below (wr.alloc (.cells #[.int .i64 x.s,.int .i64 x.f,.int .i64 x.t] 129)).heap.size (wr.alloc (.cells #[.int .i64 x.s,.int .i64 x.f,.int .i64 x.t] 129)) W)=>show (W.cell? ⟨g,0,none⟩=some (.int .i64 p.ov)/\W.cell? ⟨g,1,none⟩=some (.int .i64 p.ap)/\W.cell? ⟨g,2,none⟩=some (.int .i64 p.se)/\W.cell? ⟨g,3,none⟩=some (.int .i64 p.ho)/\W.cell? ⟨g,4,none⟩=some (.slice A p.secs.length c)/\W.cell? ⟨g,5,none⟩=some (.slice A' p.sigs.length c'))/\W.cell? ⟨wr.heap.size,0,none⟩=some (.int .i64 x.s)/\W.cell? ⟨wr.heap.size,2,none⟩=some (.int .i64 x.t) from by
  have h3:=((hb.block _ (ArL ((HX.out.block _ gg).trans HH.out.2.2)).1).trans (HX.out.block _ gg)).trans HH.out.2.2
  obtain⟨⟨r0,r1,r2,r3,r4,r5,-,-,-,-⟩,-,-⟩:=frow10 h3
  obtain⟨⟨t0,-,t2⟩,-,-⟩:=row3 ((hb.block _ (by simp)).trans RX.out)
  exact⟨⟨r0,r1,r2,r3,r4,r5⟩,t0,t2⟩)
 have CN:=hid (λW (hb:Below (wr.alloc (.cells #[.int .i64 x.s,.int .i64 x.f,.int .i64 x.t] 129)).heap.size (wr.alloc (.cells #[.int .i64 x.s,.int .i64 x.f,.int .i64 x.t] 129)) W)=>Made.of (w:=wr.alloc (.cells #[.int .i64 x.s,.int .i64 x.f,.int .i64 x.t] 129)) hb (dC p A c A' c' x.s x.t W (HI.out.below ((HH.out.1.trans (HX.out.mono HH.out.1.size)).trans (hb.mono (ArS HH.out.1.size HX.out.size)))) hsl))
 have CL:=hid (λW (hb:Below (wr.alloc (.cells #[.int .i64 x.s,.int .i64 x.f,.int .i64 x.t] 129)).heap.size (wr.alloc (.cells #[.int .i64 x.s,.int .i64 x.f,.int .i64 x.t] 129)) W)=>show Calls Tryz.prog 154 #[aR p A c A' c',.slice (some ⟨bb,0,none⟩) N d] W (Made (wr.alloc (.cells #[.int .i64 x.s,.int .i64 x.f,.int .i64 x.t] 129)) (.int .i64 (Lp.len p (st++[x]))) W) from by
  have h:=Made.of (w:=wr.alloc (.cells #[.int .i64 x.s,.int .i64 x.f,.int .i64 x.t] 129)) hb (vJ p HM.out A c A' c' (st++[x]) (some ⟨bb,0,none⟩) d W (HI.out.below ((HH.out.1.trans (HX.out.mono HH.out.1.size)).trans (hb.mono (ArS HH.out.1.size HX.out.size)))) ((OwnS.row HO.out).below rfl (HX.out.trans (hb.mono HX.out.size))) (by rw[HN.out];omega))
  rwa [HN.out] at h)
 go_enter Tryz.func136,Tryz.ntmps136
 go_upto_region 2 with fail
 generalize wr.alloc (.cells #[.int .i64 x.s,.int .i64 x.f,.int .i64 x.t] 129)=w2 at HX KS CN CL ⊢
 clear X1 RX a0 a1 a2 q1 l1 l2 l3 hbb
 have B2:=hid (AtB w2)
 generalize hnx:Wk.next p x.s x.t=nx at CN
 have HNX:=hid hnx
 obtain⟨n1,n2,n3⟩:=nx
 clear hnx
 go_cut [6,7,8] from 9 to 52 (λs6 s7 s8 w'=>(s6=.int .i64 n1/\s7=.int .i64 n2/\s8=.bool n3)/\Below w2.heap.size w2 w')
 case first =>
  --[
  go_region_held3 (λW=>(W.cell? ⟨g,0,none⟩=some (.int .i64 p.ov)/\W.cell? ⟨g,1,none⟩=some (.int .i64 p.ap)/\W.cell? ⟨g,2,none⟩=some (.int .i64 p.se)/\W.cell? ⟨g,3,none⟩=some (.int .i64 p.ho)/\W.cell? ⟨g,4,none⟩=some (.slice A p.secs.length c)/\W.cell? ⟨g,5,none⟩=some (.slice A' p.sigs.length c'))/\W.cell? ⟨wr.heap.size,0,none⟩=some (.int .i64 x.s)/\W.cell? ⟨wr.heap.size,2,none⟩=some (.int .i64 x.t))
   (first|with_reducible exact KS.out _ B2.out.drew|with_reducible exact KS.out _ hacc)
   (first|(go_at_call 62;(with_reducible refine(CN.out _ B2.out.drew).mono ?_);rintro e w' ⟨rfl,hbl,hacc,hz⟩))
  all_goals go_wp2_with fail
  all_goals go_meet
  all_goals exact⟨⟨rfl,rfl,rfl⟩,hacc⟩
  --]
 case rest =>
  obtain⟨⟨rfl,rfl,rfl⟩,hb4⟩:=hcut
  have B4:=hid hb4
  clear hb4 CN B2
  generalize wc=w3 at B4 ⊢
  have HLA:=hid (Lp.lasts_len (st:=st) HX0.out (by rw[<-HX0.out,HNX.out]:(Wk.next p s x.t).2.2=n3))
  have HON:=hid (show r=if (!n3 || decide (p.ov<=Lp.len p (st++[x]))) then(some (st++[x]),n) else Lp.enter p b way k n1 n2 (st++[x]) (Lp.len p (st++[x])) n from by
   rw[<-HR.out]
   unfold Lp.one
   rw[HLA.out,<-HX0.out,HNX.out,Lp.len_snoc])
  clear HLA HR
  -- the overlap ends here
  have FIN:=hid (λW (hb:Below wr.heap.size wr W) (hq:(!n3 || decide (p.ov<=Lp.len p (st++[x])))=true)=>show bR p A c A' c' b (.slice Aw way.length cw) g w0 r (some ⟨bb,0,none⟩) d (st++[x]) u wr (.returned (.bool true)) (W.setCell ⟨g,9,none⟩ (.slice (some ⟨bb,0,none⟩) N d)) from by
   rw[HON.out,ArZ hq]
   obtain⟨f1,f2⟩:=(HH.out.below hb).met (.slice (some ⟨bb,0,none⟩) N d)
   exact .inr (.inr ⟨H4.out,st++[x],some ⟨bb,0,none⟩,d,rfl,rfl,by rw[HN.out];exact f1,aX (aA HO.out hb) f2 (by decide) (by decide)⟩))
  cases n3 with
  | false =>
    --[
    have B5:=hid (HX.out.trans (B4.out.mono HX.out.size))
    obtain⟨⟨-,-,-,-,-,-,-,-,-,p9⟩,⟨-,f9⟩,gg3⟩:=frow10 (HH.out.below B5.out).2.2
    clear gg
    go_upto_region 3 with fail
    go_quiet (fail)
    go_wp2
    go_ret
    exact FIN.out _ (aH B5.out _) rfl
    --]
  | true =>
    obtain⟨⟨p0,p1,p2,p3,p4,p5⟩,-,-⟩:=KS.out _ B4.out
    go_upto_region 3 with fail
    generalize hz:decide (Lp.len p (st++[x])<p.ov)=z
    have HZ:=hid hz
    clear hz
    go_cut [42] from 9 to 52 (λs42 w'=>s42=.bool z/\Below w2.heap.size w2 w')
    case first =>
     --[
     go_region_held3 (λW=>(W.cell? ⟨g,0,none⟩=some (.int .i64 p.ov)/\W.cell? ⟨g,1,none⟩=some (.int .i64 p.ap)/\W.cell? ⟨g,2,none⟩=some (.int .i64 p.se)/\W.cell? ⟨g,3,none⟩=some (.int .i64 p.ho)/\W.cell? ⟨g,4,none⟩=some (.slice A p.secs.length c)/\W.cell? ⟨g,5,none⟩=some (.slice A' p.sigs.length c'))/\W.cell? ⟨wr.heap.size,0,none⟩=some (.int .i64 x.s)/\W.cell? ⟨wr.heap.size,2,none⟩=some (.int .i64 x.t))
      (first|with_reducible exact KS.out _ B4.out.drew|with_reducible exact KS.out _ hacc)
      (first|(go_at_call 154;(with_reducible refine(CL.out _ B4.out.drew).mono ?_);rintro e w' ⟨rfl,hbl,hacc,hz⟩))
     all_goals go_wp2_with fail
     all_goals go_meet
     all_goals exact⟨by rw[<-HZ.out],hacc⟩
     --]
    case rest =>
     --[
     obtain⟨rfl,hb5⟩:=hcut
     have hb:=HX.out.trans (hb5.mono HX.out.size)
     have B5:=hid hb
     clear hb5 B4 KS CL HX gg
     generalize wc=w4 at B5 ⊢
     cases z with
     | true =>
       have hq:=of_decide_eq_true HZ.out
       have HG:=hid (show r=Lp.enter p b way k n1 n2 (st++[x]) (Lp.len p (st++[x])) n from by
        rw[HON.out,ArY (by simp;omega)])
       have ih:=HIH.out n1 n2 (st++[x]) (some ⟨bb,0,none⟩) d u n w4 (HH.out.below B5.out) (aA HO.out B5.out) (by have:=HL.out;have:=HN.out;simp only[ArV,List.length_singleton];omega) H4.out
       rw[HN.out,<-HG.out] at ih
       have CI:=hid ih
       clear ih hq FIN HON HG HZ
       go_wp2_with fail
       refine CI.out.mono ?_;rintro e w5 (⟨h1,rfl,h2⟩|⟨h1,h2,rfl,h3,h4,h5⟩|⟨h1,l,B',d',h2,rfl,h3,h4⟩)
       ·have R:=hid (AsG h1 h2)
        clear h1 h2
        go_wp2
        go_ret
        exact .inl ⟨R.out.1,rfl,R.out.2⟩
       ·have R:=hid (AsG h1 (AsG h2 (AsG h3 (AsG h4 (((Below.tame B5.out _ _).seeks _).trans h5)))))
        clear h1 h2 h3 h4 h5
        go_wp2
        go_ret
        exact .inr (.inl ⟨R.out.1,R.out.2.1,rfl,R.out.2.2.1,R.out.2.2.2.1,R.out.2.2.2.2⟩)
       have R:=hid (AsG h1 (AsG h2 (AsG h3 h4)))
       clear h1 h2 h3 h4
       go_wp2
       go_ret
       exact .inr (.inr ⟨R.out.1,l,B',d',R.out.2.1,rfl,R.out.2.2.1,R.out.2.2.2⟩)
     | false =>
       have hq:=of_decide_eq_false HZ.out
       have Q:=hid (show (!true || decide (p.ov<=Lp.len p (st++[x])))=true from by simp;omega)
       obtain⟨⟨-,-,-,-,-,-,-,-,-,p9⟩,⟨-,f9⟩,gg3⟩:=frow10 (HH.out.below B5.out).2.2
       clear hq p0 p1 p2 p3 p4 p5
       go_wp2
       go_ret
       exact FIN.out _ B5.out Q.out
     --]
end
end Go.Proofs.YtjofpclmbjpgjaaGreat
