/- Lemmas. -/
import Derived.Test.YtjofpclmbjpgjaaGreatMk38
set_option maxHeartbeats 16000000
set_option maxRecDepth 100000
namespace Go.Proofs.YtjofpclmbjpgjaaGreat
open Lib (hid)
open Go.RowKit
namespace Lp
open Go Pl Wk
variable {p : Plan} {go : Int -> Int -> List Stp -> Nat -> Option (List Stp) × Nat} {s sum : Int} {st : List Stp} {x : Stp} {l : List Stp} {m m1 : Nat}
theorem zE:seek p go s sum st (x :: l) m=match one p go s sum st x m with|(some r,m1)=>(some r,m1)|(none,m1)=>seek p go s sum st l m1:=by
 unfold one
 cases h:lasts p sum s x with
 | true=>rw[sC h,ArZ rfl]
 | false =>
   rw[ArY (by decide)]
   cases hg:go (next p s x.t).1 (next p s x.t).2.1 (st++[x]) m with
   | mk o m1 =>
     cases o with
     | none=>rw[AeK h hg]
     | some r=>rw[yD h hg]
theorem zF {B:Nat} (hg:∀ s f st n,n<=(go s f st n).2/\(go s f st n).2<=n+B):(one p go s sum st x m).2<=(seek p go s sum st (x :: l) m).2:=by
 rw[zE]
 generalize one p go s sum st x m=r
 obtain⟨o,m1⟩:=r
 cases o with
 | none=>exact(tB hg l m1).1
 | some r=>exact ArR _
end Lp
section
variable {p : Pl.Plan} {A : Option Addr} {c : Nat} {A' : Option Addr} {c' : Nat} {b : Int} {u : Value} {g : Nat} {w0 wr : World} {n : Nat} {way : List Wk.Stp} {Aw : Option Addr} {cw : Nat}
theorem AiB {base:Nat} {w:World} {B:Option Addr} {d:Nat} {st:List Wk.Stp} (h:OwnS base w B d st) (k:Nat) (hk:blk B=some k):∃ cs,w.heap[k]?=some (.cells cs 129 (0,0)):=by
 rcases h.2 with ⟨hv,-⟩|⟨g',cap',cur',hv,-,hg',-⟩
 ·injection hv with h1 _ _
  subst h1
  cases hk
 cases hv
 obtain rfl:g'=k:=AsO hk
 exact⟨cur',hg'⟩
theorem AiC {v:Value} {w:World} {B:Option Addr} {d:Nat} {st:List Wk.Stp} {x:Wk.Stp} {o1 o2:Obj} {g1 cap1:Nat} {w8:World} (hS:FindAt p A c A' c' b v g w0 w n u) (hO:OwnS w0.heap.size w B d st)
 (hown:w8.ownsRow w0.heap.size 129 aE.m (.slice (some ⟨g1,0,none⟩) (st.length+1) cap1) (st.length+1) (aE.all st++aE.all [x])) (hkeep:w8.ownsRow w0.heap.size 129 aE.m (.slice B st.length d) st.length (aE.all st))
 (hat:(Value.slice B st.length d=.slice (some ⟨g1,0,none⟩) st.length cap1/\((w.alloc o1).alloc o2).grownBy w8 (some g1))∨(g1=((w.alloc o1).alloc o2).heap.size/\((w.alloc o1).alloc o2).grownBy w8 none)) :
 FindAt p A c A' c' b v g w0 w8 n u/\OwnS w0.heap.size w8 (some ⟨g1,0,none⟩) cap1 (st++[x])/\OwnS w0.heap.size w8 B d st/\sN (blk B) w w8/\((B=some ⟨g1,0,none⟩/\d=cap1)∨w.heap.size<=g1):=by
 have b1:=(AtB w).alloc (ArR _) o1
 have b2:=b1.alloc b1.size o2
 have hS2:=hS.below b2
 have hO2:OwnS w0.heap.size ((w.alloc o1).alloc o2) B d st:=aA hO b2
 have e1:OwnS w0.heap.size w8 (some ⟨g1,0,none⟩) cap1 (st++[x]):=by
  unfold OwnS
  rw[ArV,aE.all_append]
  exact hown
 have s2:=ArS hS2.1.size (ArR _)
 rcases hat with ⟨hv,hg⟩|⟨hv,hg⟩
 ·obtain⟨hB,hd⟩:B=some ⟨g1,0,none⟩/\d=cap1:=by cases hv;exact⟨rfl,rfl⟩
  subst hB
  subst hd
  have hgb:w0.heap.size<=g1:=(own_lt hO g1 rfl).1
  exact⟨hS2.grown hg (hS2.1.grown hg s2 λk hk=>by cases hk;exact hgb) (λk hk=>AiB hO2 k hk),e1,hkeep,((Below.tame b2 _ _).seeks _).trans (mL hg),.inl ⟨rfl,rfl⟩⟩
 have hz:w.heap.size<=g1:=by rw[hv];exact b2.size
 exact⟨hS2.grown hg (hS2.1.grown hg s2 λk hk=>by cases hk) (λk hk=>by cases hk),e1,hkeep,((Below.tame b2 _ _).seeks _).trans ⟨hg.os,hg.tape,hg.output,hg.size,λbb cs t fr hb _ _ _=>by rw[hg.block bb (ArL hb).1 (by simp)];exact hb⟩,.inr hz⟩
theorem AiD {w w8 w9:World} {B:Option Addr} {d:Nat} {st:List Wk.Stp} {x:Wk.Stp} {g1 cap1:Nat} (hO:OwnS w0.heap.size w B d st) (hO8:OwnS w0.heap.size w8 B d st) (hO9:OwnS w0.heap.size w9 (some ⟨g1,0,none⟩) cap1 (st++[x])) (hp:sN (blk B) w w8) (hq:sN (some g1) w8 w9) (hat:(B=some ⟨g1,0,none⟩/\d=cap1)∨w.heap.size<=g1):OwnS w0.heap.size w9 B d st/\sN (blk B) w w9:=by
 constructor
 ·rcases hat with ⟨rfl,rfl⟩|hz
  ·have:=hO9
   unfold OwnS at this
   rw[ArV,aE.all_append] at this
   exact pS this (aE.all_len st) Nat.zero_lt_one
  refine iD hO8 hq (by decide) (by decide) λk hk e=>?_
  obtain rfl:g1=k:=AsO e
  have:=(own_lt hO g1 (by rw[iC] at hk;exact hk)).2
  omega
 refine Seeks.new hp hq λk hk=>?_
 obtain rfl:g1=k:=AsO hk
 rcases hat with ⟨rfl,-⟩|hz
 ·exact .inr rfl
 exact .inl hz
theorem AmS (w:World) (y:Wk.Stp) {g:Nat} (hg:w.heap.size=g):aE.Row (w.alloc (.cells #[.int .i64 y.s,.int .i64 y.f,.int .i64 y.t] 129)) (some ⟨g,0,none⟩) [y]:=hg ▸ Lies.Row.fresh (E:=aE) w [y] 129
theorem vK {wa:World} (hI:PlanIn w0 p A A') (hm:Lp.Meas p) (hsl:p.secs.length<=24) (hway:aE.Row w0 Aw way) (hwl:way.length<=1000) (k:Nat) (IH:AdA p A c A' c' b way Aw cw g w0 k) (s f:Int) (st:List Wk.Stp) (B:Option Addr) (d n:Nat) (hh:FindAt p A c A' c' b (.slice Aw way.length cw) g w0 wa n u) (ho:OwnS w0.heap.size wa B d st) (hl:st.length+(k+1)=16) (hn4:n<=400) (hT:(decide (400<n+1) || Lp.bars b way st s)=false) :
 Calls Tryz.prog 102 #[.pointer (some ⟨g,0,none⟩),.slice B st.length d,.int .i64 s,.int .i64 f] wa (bR p A c A' c' b (.slice Aw way.length cw) g w0 (Lp.seek p (λs' f' st' n'=>Lp.enter p b way k s' f' st' (Lp.len p st+Lp.secLen p s) n') s (Lp.len p st+Lp.secLen p s) st (Wk.outs p s f) (n+1)) B d st u wa):=by
 rw[Bool.or_eq_false_iff] at hT
 obtain⟨hT1,hT2⟩:=hT
 have hn5:=of_decide_eq_false hT1
 obtain⟨⟨-,-,-,-,-,-,-,-,p8,-⟩,⟨f8,-⟩,gg⟩:=frow10 hh.2.2
 have q1:IntKind.i64.wrap ((n:Int)+1)=(n:Int)+1:=IntWalk.i64_in _ (by omega)
 have HC:=hid hh.came
 have OC:=hid (aX ho HC.out.2 (by decide) (by decide))
 have CB:=hid (mN (hway.below rfl HC.out.1.1) hwl s st B d HC.out.1 (OwnS.row OC.out) (by omega))
 rw[hT2] at CB
 have D:decide (400<(n:Int)+1)=false:=aB (by omega)
 have E:((st.length:Int) == 16)=false:=by rw[ArU];omega
 have CO:=hid (λW (hb:Below w0.heap.size w0 W)=>jH p A c A' c' s f W (hI.below hb) hsl)
 have HIH:=hid IH
 have HI:=hid hI
 have HM:=hid hm
 have HL:=hid hl
 have hlo':=Wk.outs_len p s f
 have HSX:=hid (λ(x:Wk.Stp) (hx:x∈Wk.outs p s f)=>Cr.outs_sec hx)
 have HZ0:=hid (own_lt ho)
 have HN1:=hid (show n+1<=400 from by omega)
 have HLE:=hid (λs' f' st' (n':Nat)=>show n'<=(Lp.enter p b way k s' f' st' (Lp.len p st+Lp.secLen p s) n').2/\(Lp.enter p b way k s' f' st' (Lp.len p st+Lp.secLen p s) n').2<=n'+(2 ^ (k+1)-1) from⟨Nat.le_of_lt (Lp.enter_le p b way k s' f' st' _ n').1,(Lp.enter_le p b way k s' f' st' _ n').2⟩)
 clear hT1 hT2 hn4 hn5 hh ho hI hm IH hl hway hwl
 generalize Wk.outs p s f=L at CO hlo' HSX ⊢
 generalize hgo:(λ(s' f':Int) (st':List Wk.Stp) (n':Nat)=>Lp.enter p b way k s' f' st' (Lp.len p st+Lp.secLen p s) n')=go
 have HGO:=hid hgo
 have HLG:=hid (show ∀ s f st n,n<=(go s f st n).2/\(go s f st n).2<=n+(2 ^ (k+1)-1) from by rw[<-hgo];exact HLE.out)
 clear hgo HLE
 generalize hsm:Lp.len p st+Lp.secLen p s=sm at HGO ⊢
 have HSM:=hid hsm
 clear hsm
 generalize hres:Lp.seek p go s sm st L (n+1)=res
 have HRES:=hid hres
 clear hres
 obtain⟨i0,hi,hz0,hz1,hz2⟩:=info_parts fR
 go_enter Tryz.func102,Tryz.ntmps102
 go_wp2_with fail
 refine CB.out.mono ?_;rintro e w1 ⟨rfl,hb1⟩
 have T1:=hid (HC.out.2.trans (Below.tame hb1 _ _))
 have H1:=hid (HC.out.1.below hb1)
 have O1:=hid (aA OC.out hb1)
 clear hb1 p8 f8 gg HC OC CB
 obtain⟨⟨p0,p1,p2,p3,p4,p5,-,-,-,-⟩,-,gg⟩:=frow10 H1.out.2.2
 go_wp2_with fail
 refine(CO.out _ H1.out.1).mono ?_;rintro e w5 ⟨Al,dl,rfl,hol,hb5⟩
 have T5:=hid (T1.out.trans (Below.tame hb5 _ _))
 have H5:=hid (H1.out.below hb5)
 have O5:=hid (show OwnS w0.heap.size w5 B d st from aA O1.out hb5)
 have OL:=hid hol
 have HLB:=hid (show ∀ j,blk Al=some j->blk B≠some j from λj hj hb=>by
  have h1:=(own_lt hol j hj).1
  have h2:=(HZ0.out j hb).2
  have h3:=T1.out.size
  omega)
 clear hol hb5 p0 p1 p2 p3 p4 p5 gg D E q1 CO T1 H1 O1
 go_wp2_with fail
 go_loopw [40] (λi w'=>∃ j m:Nat,j<=L.length/\i=.int .i64 j/\m<=400/\Lp.seek p go s sm st (L.drop j) m=res/\FindAt p A c A' c' b (.slice Aw way.length cw) g w0 w' m u/\OwnS w0.heap.size w' B d st/\sN (blk B) w5 w') (λi _=>L.length-(intOf i).toNat)
 case atStart=>exact⟨0,n+1,AsD _,rfl,HN1.out,by rw[List.drop_zero];exact HRES.out,H5.out,O5.out,Seeks.refl _ _ _ _⟩
 case round =>
  obtain⟨j,m,hj,rfl,hm4,hsk,hS,hO,hP⟩:=hrel
  by_cases hlt:j<L.length
  ·have hdr:L.drop j=L[j] :: L.drop (j+1):=List.drop_eq_getElem_cons hlt
   have OLr:=iD OL.out hP (by decide) (by decide) (λk hk=>HLB.out k (by rw[iC] at hk;exact hk))
   obtain⟨bl,ol,rfl,hbl,on⟩:=(OwnS.row OLr).at hlt
   obtain⟨a0,a1,a2⟩:=bL on
   rw[show j*aE.m=j*3 from rfl] at a0 a1 a2
   have hxs:=HSX.out L[j] (List.getElem_mem hlt)
   rw[hdr] at hsk
   clear OLr hdr on
   generalize L[j]=x at a0 a1 a2 hsk hxs
   have HSK:=hid hsk
   have HLE1:=hid (show (Lp.one p go s sm st x m).2<=res.2 from by rw[<-hsk];exact Lp.zF HLG.out)
   have HXS:=hid hxs
   have HM4:=hid hm4
   have HS:=hid hS
   have HOr:=hid hO
   have HP:=hid hP
   have OW:=hid (World.ownsRow.alloc (World.ownsRow.alloc hO (.cells #[.int .i64 x.s,.int .i64 x.f,.int .i64 x.t] 129)) (.cells #[.int .i64 x.s,.int .i64 x.f,.int .i64 x.t] 129))
   have NW:=hid (AmS (wr.alloc (.cells #[.int .i64 x.s,.int .i64 x.f,.int .i64 x.t] 129)) x (g:=wr.heap.size+1) (by simp))
   have hst:st.length<=15:=by have:=HL.out;omega
   have hws:=hS.1.size
   clear hS hO hP hxs hsk hm4
   go_wp2_with (at_builtin;refine dP aE _ rfl (.tmp 45) (.tmp 47) 86 rfl w0.heap.size 129 i0 _ 24 Tryz.underlying86 hi hz0 hz1 hz2 rfl (.slice B st.length d) st.length (aE.all st) rfl OW.out (some ⟨wr.heap.size+1,0,none⟩) 1 1 [x] rfl (by decide) rfl NW.out (by omega) (by omega) (by simp;omega) ?_;intro g1 cap1 w8 hown1 hkeep1 hat1)
   have GM:=hid (AiC HS.out HOr.out hown1 hkeep1 hat1)
   have CL:=hid (show Calls Tryz.prog 136 #[.pointer (some ⟨g,0,none⟩),.slice (some ⟨g1,0,none⟩) (st.length+1) cap1] w8 (bR p A c A' c' b (.slice Aw way.length cw) g w0 (Lp.one p go s sm st x m) (some ⟨g1,0,none⟩) cap1 (st++[x]) u w8) from by
    have h:=zD HI.out HM.out hsl k HIH.out s st x HXS.out (some ⟨g1,0,none⟩) cap1 GM.out.1 GM.out.2.1 HL.out HM4.out (st.length+1) rfl
    rw[HSM.out,HGO.out] at h
    exact h)
   clear hown1 hkeep1 hat1 OW NW
   have HSO:=hid (show (match Lp.one p go s sm st x m with|(some r,m1)=>(some r,m1)|(none,m1)=>Lp.seek p go s sm st (L.drop (j+1)) m1)=res from by rw[<-Lp.zE];exact HSK.out)
   generalize Lp.one p go s sm st x m=q at CL HSO HLE1
   obtain⟨qo,qm⟩:=q
   refine CL.out.mono ?_;rintro e w9 (⟨h1,rfl,m',u',h2,h3⟩|⟨h1,h2,rfl,h3,h4,h5⟩|⟨h1,l,B',d',h2,rfl,h3,h4⟩)
   ·have R:=hid (show bR p A c A' c' b (.slice Aw way.length cw) g w0 res B d st u wa (.returned (.bool true)) w9 from .inl ⟨AsE h1 HLE1.out,rfl,m',u',h2,h3⟩)
    clear h1 h2 h3
    go_wp2
    go_ret
    exact R.out
   ·simp only at h1 h2 h3
    subst h2
    have GB:=hid (AiD HOr.out GM.out.2.2.1 h4 GM.out.2.2.2.1 h5 GM.out.2.2.2.2)
    have R:=hid (AsG h1 (AsG (show Lp.seek p go s sm st (L.drop (j+1)) qm=res from HSO.out) (AsG h3 (AsG GB.out.1 (HP.out.trans GB.out.2)))))
    clear h1 h3 h4 h5
    go_wp2
    go_roundw
    case rel=>exact⟨j+1,qm,by omega,by go_num,R.out⟩
    case measure=>simp[intOf];omega
   simp only at h1 h2 h3
   subst h2
   have R:=hid (show bR p A c A' c' b (.slice Aw way.length cw) g w0 res B d st u wa (.returned (.bool true)) w9 from by
    have h:=HSO.out
    simp only at h
    subst h
    exact .inr (.inr ⟨h1,l,B',d',rfl,rfl,h3,h4⟩))
   clear h1 h3 h4
   go_wp2
   go_ret
   exact R.out
  obtain rfl:j=L.length:=by omega
  rw[List.drop_length] at hsk
  have R:=hid (show bR p A c A' c' b (.slice Aw way.length cw) g w0 res B d st u wa (.returned (.bool false)) wr from by
   subst hsk
   exact .inr (.inl ⟨hm4,rfl,rfl,hS,hO,(T5.out.seeks _).trans hP⟩))
  clear hm4 hsk hS hO hP
  go_wp2
  go_ret
  exact R.out
theorem mO (hI:PlanIn w0 p A A') (hm:Lp.Meas p) (hsl:p.secs.length<=24) (hway:aE.Row w0 Aw way) (hwl:way.length<=1000):∀ k:Nat,AdA p A c A' c' b way Aw cw g w0 k
 | 0=>λs f st B d u n wr hh ho hl hn=>kP hway hwl s f st B d hh ho (by omega) (by omega) (.inr (by omega))
 | k + 1=>λs f st B d u n wr hh ho hl hn=>by
   cases hT:decide (400<n+1) || Lp.bars b way st s with
   | true =>
     rw[Lp.enter,ArZ hT]
     exact kP hway hwl s f st B d hh ho (by omega) (by omega) (.inl hT)
   | false =>
     rw[Lp.enter,ArY (by rw[hT];decide)]
     exact vK hI hm hsl hway hwl k (mO hI hm hsl hway hwl k) s f st B d n hh ho hl hn hT
end
open Go.RowKit
theorem kQ (p:Pl.Plan) (A:Option Addr) (c:Nat) (A':Option Addr) (c':Nat) (i:Int) (q:Bool) (hq:decide (0<=i/\i<(p.sigs.length:Int))=q) (w:World) :
 Calls Tryz.prog 101 #[aR p A c A' c',.int .i64 i] w (OneIs (.bool q) w):=by
 --[
 have X0:=hid ((AtB w).alloc (ArR _) (aD p A c A' c'))
 obtain⟨⟨p0,p1,p2,p3,p4,p5⟩,-,gp⟩:=row6 (AsW w (aD p A c A' c'))
 subst hq
 by_cases h0:0<=i
 ·have D0:decide (0<=i)=true:=aC h0
  by_cases h1:i<(p.sigs.length:Int)
  ·have D1:decide (i<(p.sigs.length:Int))=true:=aC h1
   rw[decide_eq_true (AsG h0 h1)]
   clear h0 h1
   go_enter Tryz.func101,Tryz.ntmps101
   go_wp2
   go_ret
   exact⟨rfl,X0.out⟩
  have D1:decide (i<(p.sigs.length:Int))=false:=aB h1
  rw[decide_eq_false (λh=>h1 h.2)]
  clear h0 h1
  go_enter Tryz.func101,Tryz.ntmps101
  go_wp2
  go_ret
  exact⟨rfl,X0.out⟩
 ·have D0:decide (0<=i)=false:=aB h0
  rw[decide_eq_false (λh=>h0 h.1)]
  clear h0
  go_enter Tryz.func101,Tryz.ntmps101
  go_wp2
  go_ret
  exact⟨rfl,X0.out⟩
 --]
theorem AoP (p:Pl.Plan) (hf:Pl.Fit p) (hm:Lp.Meas p) (A:Option Addr) (c:Nat) (A':Option Addr) (c':Nat) (i:Int) (way:List Wk.Stp) (ex:Int) (Aw:Option Addr) (cw:Nat) (w:World) (h:PlanIn w p A A') (hway:aE.Row w Aw way) (hwl:way.length<=1000) (hex:-1<=ex) :
 Calls Tryz.prog 64 #[aR p A c A' c',.int .i64 i,.agg #[.slice Aw way.length cw,.int .i64 ex]] w (LapYes (Lp.of p i ⟨way,ex⟩) w):=by
 have XA:=(AtB w).alloc (ArR _) (aD p A c A' c')
 have X0:=hid (XA.alloc XA.size (eW Aw way.length cw ex))
 have RP:=hid ((heap_alloc_old (w.alloc (aD p A c A' c')) (eW Aw way.length cw ex) (show w.heap.size<(w.alloc (aD p A c A' c')).heap.size by simp)).trans (AsW w (aD p A c A' c')))
 have RY:=hid (show ((w.alloc (aD p A c A' c')).alloc (eW Aw way.length cw ex)).heap[w.heap.size+1]?=some (eW Aw way.length cw ex) from by
  have:=AsW (w.alloc (aD p A c A' c')) (eW Aw way.length cw ex)
  rwa [show (w.alloc (aD p A c A' c')).heap.size=w.heap.size+1 by simp] at this)
 have HI:=hid (h.below X0.out)
 have HW:=hid (hway.below rfl X0.out)
 clear XA h hway
 generalize hw1:(w.alloc (aD p A c A' c')).alloc (eW Aw way.length cw ex)=w1 at X0 RP RY HI HW
 have K1:=hid (λW (hb:Below w1.heap.size w1 W)=>show ((W.cell? ⟨w.heap.size,0,none⟩=some (.int .i64 p.ov)/\W.cell? ⟨w.heap.size,1,none⟩=some (.int .i64 p.ap)/\W.cell? ⟨w.heap.size,2,none⟩=some (.int .i64 p.se)/\W.cell? ⟨w.heap.size,3,none⟩=some (.int .i64 p.ho)/\W.cell? ⟨w.heap.size,4,none⟩=some (.slice A p.secs.length c)/\W.cell? ⟨w.heap.size,5,none⟩=some (.slice A' p.sigs.length c'))/\W.cell? ⟨w.heap.size+1,0,none⟩=some (.slice Aw way.length cw)/\W.cell? ⟨w.heap.size+1,1,none⟩=some (.int .i64 ex)) from
  ⟨(row6 ((hb.block _ (ArL RP.out).1).trans RP.out)).1,(pI ((hb.block _ (ArL RY.out).1).trans RY.out)).1⟩)
 have T0:=hid (AtB w1)
 obtain⟨⟨p0,p1,p2,p3,p4,p5⟩,y0,y1⟩:=K1.out _ T0.out
 have S1:=hid (λW q (hq:decide (0<=i/\i<(p.sigs.length:Int))=q)=>kQ p A c A' c' i q hq W)
 have S2:=hid (λW q (hq:decide (0<=ex/\ex<(p.sigs.length:Int))=q)=>kQ p A c A' c' ex q hq W)
 rcases Cr.sigAt_ways p i with ⟨hs,hn⟩|⟨k,rfl,⟨hk,hn⟩|⟨x1,hx1,hn⟩⟩
 ·have C1:=hid (λW=>S1.out W false (decide_eq_false (by omega)))
  rw[Lp.of_bad hn]
  clear hs hn S1 S2
  subst hw1
  go_enter Tryz.func64,Tryz.ntmps64
  go_wp2_with fail
  refine(C1.out _).mono ?_;rintro e w2 ⟨rfl,hb2⟩
  have FIN:=hid (LapYes.nil 4 (X0.out.trans (hb2.mono X0.out.size)))
  clear hb2 p0 p1 p2 p3 p4 p5 y0 y1
  go_wp2_with fail
  refine bodyPost_ret ?_ rfl FIN.out
  simp[results,Tryz.results64,go_sem]
 ·have C1:=hid (λW=>S1.out W false (decide_eq_false (by omega)))
  rw[Lp.of_bad hn]
  clear hn S1 S2
  subst hw1
  go_enter Tryz.func64,Tryz.ntmps64
  go_wp2_with fail
  refine(C1.out _).mono ?_;rintro e w2 ⟨rfl,hb2⟩
  have FIN:=hid (LapYes.nil 4 (X0.out.trans (hb2.mono X0.out.size)))
  clear hb2 p0 p1 p2 p3 p4 p5 y0 y1
  go_wp2_with fail
  refine bodyPost_ret ?_ rfl FIN.out
  simp[results,Tryz.results64,go_sem]
 have hlt:k<p.sigs.length:=(ArM hx1).1
 have C1:=hid (λW=>S1.out W true (decide_eq_true (by omega)))
 clear S1
 by_cases he1:ex = -1
 ·subst he1
  rw[Lp.of_nought (w:=⟨way,-1⟩) hn (by simp only;omega) (.inl (by simp only;omega))]
  clear hn hx1 S2 hex hlt
  subst hw1
  go_enter Tryz.func64,Tryz.ntmps64
  go_wp2_with fail
  refine(C1.out _).mono ?_;rintro e w2 ⟨rfl,hb2⟩
  have FIN:=hid (LapYes.nil 0 (X0.out.trans (hb2.mono X0.out.size)))
  clear hb2 p0 p1 p2 p3 p4 p5 y0 y1
  go_wp2_with fail
  refine bodyPost_ret ?_ rfl FIN.out
  simp[results,Tryz.results64,go_sem]
 have E1:(ex == -1)=false:=by rw[ArU];exact he1
 obtain⟨e,rfl⟩:∃ e:Nat,ex=e:=⟨ex.toNat,by omega⟩
 by_cases he:p.sigs.length<=e
 ·have C2:=hid (λW=>S2.out W false (decide_eq_false (by omega)))
  rw[Lp.of_exit (y:=⟨way,e⟩) hn (by simp only;omega)]
  clear hn hx1 he S2 hex hlt he1
  subst hw1
  go_enter Tryz.func64,Tryz.ntmps64
  go_wp2_with fail
  refine(C1.out _).mono ?_;rintro e' w2 ⟨rfl,hb2⟩
  have B2:=hid hb2
  clear hb2 p0 p1 p2 p3 p4 p5 y0 y1
  obtain⟨⟨p0,p1,p2,p3,p4,p5⟩,y0,y1⟩:=K1.out _ B2.out
  go_wp2_with fail
  refine(C2.out _).mono ?_;rintro e' w3 ⟨rfl,hb3⟩
  have FIN:=hid (LapYes.nil 4 (X0.out.trans ((B2.out.trans (hb3.mono B2.out.size)).mono X0.out.size)))
  clear hb3 p0 p1 p2 p3 p4 p5 y0 y1
  go_wp2_with fail
  refine bodyPost_ret ?_ rfl FIN.out
  simp[results,Tryz.results64,go_sem]
 have C2:=hid (λW=>S2.out W true (decide_eq_true (by omega)))
 clear S2
 by_cases hov:p.ov=0
 ·have D4:(p.ov == 0)=true:=by rw[beq_iff_eq];exact hov
  rw[Lp.of_nought (w:=⟨way,e⟩) hn (by simp only;omega) (.inr hov)]
  clear hn hx1 he hov hex hlt he1
  subst hw1
  go_enter Tryz.func64,Tryz.ntmps64
  go_wp2_with fail
  refine(C1.out _).mono ?_;rintro e' w2 ⟨rfl,hb2⟩
  have B2:=hid hb2
  clear hb2 p0 p1 p2 p3 p4 p5 y0 y1
  obtain⟨⟨p0,p1,p2,p3,p4,p5⟩,y0,y1⟩:=K1.out _ B2.out
  go_wp2_with fail
  refine(C2.out _).mono ?_;rintro e' w3 ⟨rfl,hb3⟩
  have B3:=hid (B2.out.trans (hb3.mono B2.out.size))
  clear hb3 p0 p1 p2 p3 p4 p5 y0 y1
  obtain⟨⟨p0,p1,p2,p3,p4,p5⟩,y0,y1⟩:=K1.out _ B3.out
  go_wp2_with fail
  refine bodyPost_ret ?_ rfl (LapYes.nil 0 (X0.out.trans (B3.out.mono X0.out.size)))
  simp[results,Tryz.results64,go_sem]
 have D4:(p.ov == 0)=false:=by rw[ArU];exact hov
 rcases Lp.of_eq (w:=⟨way,e⟩) hn (by simp only;omega) with ⟨h',-⟩|⟨-,-,x,hx,hof⟩
 ·rcases h' with h'|h'
  ·simp only at h';omega
  exact absurd h' hov
 rw[hof]
 simp only at hx
 have hxe:p.sigs[e]?=some x:=by
  unfold Cr.sigAt at hx
  rw[ArY (by omega),AsP] at hx
  exact hx
 have hel:=(ArM hxe).1
 obtain⟨b,o,rfl,hb,on⟩:=HI.out.2.at hlt
 obtain⟨b',o',hbo,-,on'⟩:=HI.out.2.at hel
 cases hbo
 rw[(ArM hx1).2] at on
 rw[(ArM hxe).2] at on'
 obtain⟨-,b1,-⟩:=cF on
 obtain⟨a0,a1,a2⟩:=cF on'
 rw[show k*bD.m=k*3 from rfl] at b1
 rw[show e*bD.m=e*3 from rfl] at a0 a1 a2
 clear on on' hn hx1 hx hxe hof he he1 hov hex
 obtain⟨xn,xs,xe⟩:=x
 simp only at a0 a1 a2
 have i0:(0:Int)<=(e:Int):=ArT e
 have i1:(e:Int)<(p.sigs.length:Int):=by omega
 have i2:(0:Int)<=(k:Int):=ArT k
 have i3:(k:Int)<(p.sigs.length:Int):=by omega
 have hsg:=hid hel
 have hsk:=hid hlt
 clear hel
 have KA:=hid (λW (hW:Below w1.heap.size w1 W)=>show W.cell? ⟨b,o+e*3,none⟩=some (.string (txt xn))/\W.cell? ⟨b,o+e*3+1,none⟩=some (.int .i64 xs)/\W.cell? ⟨b,o+e*3+2,none⟩=some (.int .i64 xe)/\W.cell? ⟨b,o+k*3+1,none⟩=some (.int .i64 x1.sec) from
  ⟨(hW.cell (p:=⟨b,o+e*3,none⟩) hb).trans a0,(hW.cell (p:=⟨b,o+e*3+1,none⟩) hb).trans a1,(hW.cell (p:=⟨b,o+e*3+2,none⟩) hb).trans a2,(hW.cell (p:=⟨b,o+k*3+1,none⟩) hb).trans b1⟩)
 clear a0 a1 a2 b1
 have HFM:=hid (AsG hf hm)
 have hin:=hid (λh=>Lp.next_in hf (s:=xs) (e:=xe) h)
 have HWL:=hid hwl
 have P1:=hid (show Lp.ofSig p x1.sec way ⟨xn,xs,xe⟩=if (Wk.next p xs xe).2.2 then(if 400<(Lp.enter p x1.sec way 16 (Wk.next p xs xe).1 (Wk.next p xs xe).2.1 [] 0 0).2 then([],10) else((Lp.enter p x1.sec way 16 (Wk.next p xs xe).1 (Wk.next p xs xe).2.1 [] 0 0).1.getD [],0)) else([],0) from rfl)
 generalize Lp.ofSig p x1.sec way ⟨xn,xs,xe⟩=res at P1 ⊢
 clear hf hm hwl
 subst hw1
 go_enter Tryz.func64,Tryz.ntmps64
 go_wp2_with fail
 generalize (w.alloc (aD p A c (some ⟨b,o,none⟩) c')).alloc (eW Aw way.length cw e)=w1 at *
 refine(C1.out _).mono ?_;rintro e' w2 ⟨rfl,hb2⟩
 have B2:=hid hb2
 clear hb2 p0 p1 p2 p3 p4 p5 y0 y1
 obtain⟨⟨p0,p1,p2,p3,p4,p5⟩,y0,y1⟩:=K1.out _ B2.out
 go_wp2_with fail
 refine(C2.out _).mono ?_;rintro e' w3 ⟨rfl,hb3⟩
 have B3:=hid (B2.out.trans (hb3.mono B2.out.size))
 clear hb3 p0 p1 p2 p3 p4 p5 y0 y1 C1 C2 B2
 obtain⟨⟨p0,p1,p2,p3,p4,p5⟩,y0,y1⟩:=K1.out _ B3.out
 obtain⟨a0,a1,a2,-⟩:=KA.out _ B3.out
 go_upto_region 7 with fail
 have RX:=hid (AsW w3 (.cells #[.string (txt xn),.int .i64 xs,.int .i64 xe] 58))
 have B4:=hid (B3.out.alloc B3.out.size (.cells #[.string (txt xn),.int .i64 xs,.int .i64 xe] 58))
 generalize w3.alloc (.cells #[.string (txt xn),.int .i64 xs,.int .i64 xe] 58)=w4 at RX B4 ⊢
 generalize w3.heap.size=gx at RX ⊢
 clear p0 p1 p2 p3 p4 p5 y0 y1 a0 a1 a2 B3
 obtain⟨⟨p0,p1,p2,p3,p4,p5⟩,y0,y1⟩:=K1.out _ B4.out
 obtain⟨⟨t0,t1,t2⟩,-,-⟩:=row3 RX.out
 have CN:=hid (λW (hb:Below w1.heap.size w1 W)=>dC p A c (some ⟨b,o,none⟩) c' xs xe W (HI.out.below hb) HFM.out.1.few)
 generalize hnx:Wk.next p xs xe=nx at CN hin P1
 obtain⟨n1,n2,n3⟩:=nx
 clear hnx
 go_wp2_with fail
 refine(CN.out _ B4.out).mono ?_;rintro e' w5 ⟨rfl,hb5⟩
 have B5:=hid (B4.out.trans (hb5.mono B4.out.size))
 clear p0 p1 p2 p3 p4 p5 y0 y1 t0 t1 t2 CN hb5 RX B4
 cases n3 with
 | false =>
   have FIN:=hid (show LapYes res w (.returned (.tuple #[.slice none 0 0,.int .i64 0])) w5 from by
    rw[P1.out]
    exact LapYes.nil 0 (X0.out.trans (B5.out.mono X0.out.size)))
   go_wp2_with fail
   refine bodyPost_ret ?_ rfl FIN.out
   simp[results,Tryz.results64,go_sem]
 | true =>
   obtain⟨⟨p0,p1,p2,p3,p4,p5⟩,y0,y1⟩:=K1.out _ B5.out
   obtain⟨-,-,-,b1⟩:=KA.out _ B5.out
   have P2:=hid (show res=(if 400<(Lp.enter p x1.sec way 16 n1 n2 [] 0 0).2 then([],10) else((Lp.enter p x1.sec way 16 n1 n2 [] 0 0).1.getD [],0)) from P1.out)
   clear P1 hin
   have gp:=AsE (ArL RP.out).1 B5.out.size
   have gy:=AsE (ArL RY.out).1 B5.out.size
   have gb:=AsE hb B5.out.size
   go_upto_region 10 with fail
   go_region
   go_upto_region 11 with fail
   have HL:=hid (AsW w5 (pX p A c (some ⟨b,o,none⟩) c' x1.sec (.slice Aw way.length cw) 0 (.slice none 0 0)))
   have TL:=hid ((AtB w5).alloc (ArR _) (pX p A c (some ⟨b,o,none⟩) c' x1.sec (.slice Aw way.length cw) 0 (.slice none 0 0)))
   have CE:=hid (λW (hW:FindAt p A c (some ⟨b,o,none⟩) c' x1.sec (.slice Aw way.length cw) w5.heap.size w5 W 0 (.slice none 0 0))=>mO (c:=c) (c':=c') (b:=x1.sec) (way:=way) (Aw:=Aw) (cw:=cw) (g:=w5.heap.size) (w0:=w5) (HI.out.below B5.out) HFM.out.2 HFM.out.1.few (HW.out.below rfl B5.out) HWL.out 16 n1 n2 [] none 0 (.slice none 0 0) 0 W hW (World.ownsRow_nil _ _ _ _) rfl (AsD _))
   have HF:=hid (λW (hW:Below (w5.alloc (pX p A c (some ⟨b,o,none⟩) c' x1.sec (.slice Aw way.length cw) 0 (.slice none 0 0))).heap.size (w5.alloc (pX p A c (some ⟨b,o,none⟩) c' x1.sec (.slice Aw way.length cw) 0 (.slice none 0 0))) W)=>show FindAt p A c (some ⟨b,o,none⟩) c' x1.sec (.slice Aw way.length cw) w5.heap.size w5 W 0 (.slice none 0 0) from⟨TL.out.trans (hW.mono TL.out.size),ArR _,(hW.block _ (by simp)).trans HL.out⟩)
   clear p0 p1 p2 p3 p4 p5 y0 y1 b1 HL TL
   have HB0:=hid (Below.refl (w5.alloc (pX p A c (some ⟨b,o,none⟩) c' x1.sec (.slice Aw way.length cw) 0 (.slice none 0 0))).heap.size (w5.alloc (pX p A c (some ⟨b,o,none⟩) c' x1.sec (.slice Aw way.length cw) 0 (.slice none 0 0))))
   have C5:=hid (CE.out _ (HF.out _ HB0.out.drew))
   clear CE HF HB0
   have hlp:Lp.len p []=0:=rfl
   rw[hlp] at C5
   generalize Lp.enter p x1.sec way 16 n1 n2 [] 0 0=r at C5 P2
   obtain⟨ro,m⟩:=r
   go_wp2_with fail
   refine C5.out.mono ?_;rintro e' w6 (⟨h1,rfl,m',u',h2,h3⟩|⟨h1,h2,rfl,h3,-,-⟩|⟨h1,l,B',d',h2,rfl,h3,h4⟩)
   ·obtain⟨⟨-,-,-,-,-,-,-,-,r8,r9⟩,-,gg⟩:=frow10 h3.2.2
    have D:decide (400<(m':Int))=true:=aC (by omega)
    have FIN:=hid (show LapYes res w (.returned (.tuple #[.slice none 0 0,.int .i64 10])) w6 from by
     rw[P2.out,ArZ h1]
     exact LapYes.nil 10 (X0.out.trans ((B5.out.trans (h3.1.mono B5.out.size)).mono X0.out.size)))
    clear h1 h2 h3
    go_wp2_with fail
    refine bodyPost_ret ?_ rfl FIN.out
    simp[results,Tryz.results64,go_sem]
   ·simp only at h1 h2 h3
    subst h2
    obtain⟨⟨-,-,-,-,-,-,-,-,r8,r9⟩,-,gg⟩:=frow10 h3.2.2
    have D:decide (400<(m:Int))=false:=aB (by omega)
    have FIN:=hid (show LapYes res w (.returned (.tuple #[.slice none 0 0,.int .i64 0])) w6 from by
     rw[P2.out,ArY (Nat.not_lt.2 h1)]
     exact LapYes.nil 0 (X0.out.trans ((B5.out.trans (h3.1.mono B5.out.size)).mono X0.out.size)))
    clear h1 h3
    go_wp2_with fail
    refine bodyPost_ret ?_ rfl FIN.out
    simp[results,Tryz.results64,go_sem]
   simp only at h1 h2 h3
   subst h2
   obtain⟨⟨-,-,-,-,-,-,-,-,r8,r9⟩,-,gg⟩:=frow10 h3.2.2
   have D:decide (400<(m:Int))=false:=aB (by omega)
   have FIN:=hid (show LapYes res w (.returned (.tuple #[.slice B' l.length d',.int .i64 0])) w6 from by
    rw[P2.out,ArY (Nat.not_lt.2 h1)]
    obtain⟨-,B2,d2,hv,hc,hS⟩:=TRow.of_own (E:=aE) h4
    cases hv
    exact⟨B',d',rfl,hS,hc,X0.out.trans ((B5.out.trans (h3.1.mono B5.out.size)).mono X0.out.size)⟩)
   clear h1 h3 h4
   go_wp2_with fail
   refine bodyPost_ret ?_ rfl FIN.out
   simp[results,Tryz.results64,go_sem]
theorem AmT (p:Pl.Plan) (hf:Pl.Fit p) (hm:Lp.Meas p) (A:Option Addr) (c:Nat) (A':Option Addr) (c':Nat) (i:Int) (y:Cr.Way) (Aw:Option Addr) (cw:Nat) (w:World) (h:PlanIn w p A A') (hway:aE.Row w Aw y.steps) (hwl:y.steps.length<=1000) (hex:-1<=y.exit) :
 Calls Tryz.prog 64 #[aR p A c A' c',.int .i64 i,AhJ Aw cw y] w (LapYes (Lp.of p i y) w):=AoP p hf hm A c A' c' i y.steps y.exit Aw cw w h hway hwl hex
end Go.Proofs.YtjofpclmbjpgjaaGreat
