/- Lemmas. -/
import Derived.Test.YtjofpclmbjpgjaaGreatMk21
set_option maxHeartbeats 8000000
set_option maxRecDepth 100000
namespace Go.Proofs.YtjofpclmbjpgjaaGreat
open Lib (hid)
open Go.RowKit
namespace Lp
open Go Pl Wk
variable {p : Plan} {go : Int -> Int -> List Stp -> Nat -> Option (List Stp) × Nat} {s sum : Int} {st : List Stp} {x : Stp} {l : List Stp} {m : Nat}
theorem sC (h:lasts p sum s x=true):seek p go s sum st (x :: l) m=(some (st++[x]),m):=by rw[seek,ArZ h]
theorem yD (h:lasts p sum s x=false) {r:List Stp} {m1:Nat} (hg:go (next p s x.t).1 (next p s x.t).2.1 (st++[x]) m=(some r,m1)):seek p go s sum st (x :: l) m=(some r,m1):=by rw[seek,ArY (by rw[h];decide),hg]
theorem AeK (h:lasts p sum s x=false) {m1:Nat} (hg:go (next p s x.t).1 (next p s x.t).2.1 (st++[x]) m=(none,m1)):seek p go s sum st (x :: l) m=seek p go s sum st l m1:=by rw[seek,ArY (by rw[h];decide),hg]
end Lp
section
variable {p : Pl.Plan} {A : Option Addr} {c : Nat} {A' : Option Addr} {c' : Nat} {b : Int} {g : Nat} {w0 w : World} {n : Nat} {way : List Wk.Stp} {Aw : Option Addr} {cw : Nat}
theorem uS (hI:PlanIn w0 p A A') (hf:Pl.Fit p) (hm:Lp.Meas p) (hway:aE.Row w0 Aw way) (hwl:way.length<=1000) (k:Nat)
 (IH:∀ (s f:Int) (st:List Wk.Stp) (B:Option Addr) (d:Nat) (sum:Int) (n:Nat) (wr:World),LookAt p A c A' c' b (.slice Aw way.length cw) g w0 wr n->OwnS w0.heap.size wr B d st->(st=[]->B=none/\d=0)->st.length+k=16->n+2 ^ (k+1)<=1000000->(∃ i:Nat,s=i/\i<p.secs.length)->(0<=sum/\sum<=(st.length:Int)*1099511627776) ->
  Calls Tryz.prog 119 #[.pointer (some ⟨g,0,none⟩),.int .i64 s,.int .i64 f,.slice B st.length d,.int .i64 sum] wr (cN p A c A' c' b (.slice Aw way.length cw) g w0 (Lp.enter p b way k s f st sum n) wr))
 (s f:Int) (st:List Wk.Stp) (B:Option Addr) (d:Nat) (sum:Int) (hh:LookAt p A c A' c' b (.slice Aw way.length cw) g w0 w n) (ho:OwnS w0.heap.size w B d st) (hnil:st=[]->B=none/\d=0) (hl:st.length+(k+1)=16) (ht:n+2 ^ (k+2)<=1000000) (hs0:∃ i:Nat,s=i/\i<p.secs.length) (hsum:0<=sum/\sum<=(st.length:Int)*1099511627776)
 (hT:(decide (400<n+1) || Lp.bars b way st s)=false) :
 Calls Tryz.prog 119 #[.pointer (some ⟨g,0,none⟩),.int .i64 s,.int .i64 f,.slice B st.length d,.int .i64 sum] w (cN p A c A' c' b (.slice Aw way.length cw) g w0 (Lp.seek p (λs' f' st' n'=>Lp.enter p b way k s' f' st' (sum+Lp.secLen p s) n') s (sum+Lp.secLen p s) st (Wk.outs p s f) (n+1)) w):=by
 obtain⟨⟨p0,p1,p2,p3,p4,p5,p6,p7,p8⟩,⟨-,-,-,-,-,-,-,-,f8⟩,gg⟩:=row9 hh.2.2
 have hnl:n<=1000000:=ArS (Nat.le_add_right _ _) ht
 have q1:IntKind.i64.wrap ((n:Int)+1)=(n:Int)+1:=IntWalk.i64_in _ (by omega)
 obtain⟨i,rfl,hil⟩:=hs0
 rw[Bool.or_eq_false_iff] at hT
 obtain⟨hT1,hT2⟩:=hT
 obtain⟨hsb,hww,hws⟩:=Lp.bars_false hT2
 have hn4:=of_decide_eq_false hT1
 have HC:=hid hh.came
 have OC:=hid (aX ho HC.out.2 (by decide) (by decide))
 have RW:=hid (hway.below rfl HC.out.1.1)
 have D:decide (400<(n:Int)+1)=false:=aB (by omega)
 have E:((i:Int) == b)=false:=by rw[ArU];exact hsb
 have D16:((st.length:Int) == 16)=false:=by rw[ArU];omega
 have CW:=hid (bF Aw cw way (i:Int) _ RW.out (by omega))
 have CS:=hid (bF B d st (i:Int) _ (OwnS.row OC.out) (by omega))
 rw[hww] at CW
 rw[hws] at CS
 obtain⟨bS,oS,rfl,gS,onS⟩:=(hI.below HC.out.1.1).1.at hil
 have onl:=(bE onS).2.2.1
 rw[show i*aQ.m=i*12 from rfl] at onl
 have hlen:=Lp.secLen_bd hm (i:Int)
 have hll:(p.secs[i]).len=Lp.secLen p (i:Int):=(Lp.secLen_at (ArN hil)).symm
 rw[hll] at onl
 have CO:=hid (λW (hb:Below w0.heap.size w0 W)=>jE p (some ⟨bS,oS,none⟩) c A' c' (i:Int) f W (hI.below hb))
 have HIH:=hid IH
 have HI:=hid hI
 have HF:=hid hf
 have HSN:=hid (show 0<=sum+Lp.secLen p (i:Int)/\sum+Lp.secLen p (i:Int)<=((st.length+1:Nat):Int)*1099511627776 from by omega)
 have q2:IntKind.i64.wrap (sum+Lp.secLen p (i:Int))=sum+Lp.secLen p (i:Int):=IntWalk.i64_in _ (by omega)
 have HNS:=hid (show st.length=0->Value.slice B st.length d=.slice none 0 0 from λh0=>by obtain⟨rfl,rfl⟩:=hnil (AsR h0);rw[h0])
 obtain⟨i0,hi,hz0,hz1,hz2⟩:=info_parts xU
 have hlo:=Wk.outs_len p (i:Int) f
 have HT2:=hid ht
 have HL:=hid hl
 have hst:st.length<=15:=by omega
 have hi0:(0:Int)<=(i:Int):=ArT i
 have hi1:(i:Int)<(p.secs.length:Int):=by omega
 have HG:=hid (λs' f' st' (n':Nat)=>(Lp.enter_le p b way k s' f' st' (sum+Lp.secLen p (i:Int)) n').2)
 clear hT1 hT2 hsb hww hws hn4 hh ho IH hI hnil ht hl onS hll hlen hsum hf hm hway hnl
 generalize hgo:(λ(s' f':Int) (st':List Wk.Stp) (n':Nat)=>Lp.enter p b way k s' f' st' (sum+Lp.secLen p (i:Int)) n')=go
 have HGO:=hid hgo
 clear hgo
 generalize Wk.outs p (i:Int) f=L at CO hlo ⊢
 go_enter Tryz.func119,Tryz.ntmps119
 go_wp2_with fail
 refine CW.out.mono ?_;rintro e w1 ⟨rfl,rfl⟩
 go_wp2_with fail
 refine CS.out.mono ?_;rintro e w1 ⟨rfl,rfl⟩
 go_wp2_with fail
 refine(CO.out _ HC.out.1.1).mono ?_;rintro e w5 ⟨Al,dl,rfl,hol,hb5⟩
 have H5:=hid (HC.out.1.below hb5)
 have T5:=hid (HC.out.2.trans (Below.tame hb5 _ _))
 have OL:=hid (show OwnS w0.heap.size w5 Al dl L from fC hol HC.out.1.1.size)
 have OS:=hid (aA OC.out hb5)
 clear hol hb5 p0 p1 p2 p3 p4 p5 p6 p7 p8 f8 gg D E D16 q1 CO CW CS HC OC RW onl
 generalize sum+Lp.secLen p (i:Int)=sm at *
 have HSM:=hid HSN.out
 go_wp2_with fail
 go_loopw [13] (λv w'=>∃ (j m:Nat),j<=L.length/\v=.int .i64 j/\LookAt p (some ⟨bS,oS,none⟩) c A' c' b (.slice Aw way.length cw) g w0 w' m/\sB w5 w'/\m<=n+1+j*(2 ^ (k+1)-1)/\Lp.seek p go i sm st L (n+1)=Lp.seek p go i sm st (L.drop j) m) (λv _=>L.length-(intOf v).toNat)
 case atStart=>exact⟨0,n+1,AsD _,rfl,H5.out,Tame.refl _ _ _,Nat.le_add_right _ _,by rw[List.drop_zero]⟩
 case round =>
  obtain⟨j,m,hj,rfl,hH,hTm,hmn,hsk⟩:=hrel
  have HH:=hid hH
  have HTm:=hid hTm
  have HSK:=hid hsk
  clear hH hTm hsk
  by_cases hlt:j<L.length
  ·have hdr : L.drop j=L[j] :: L.drop (j+1):=List.drop_eq_getElem_cons hlt
   have OLr:=aX OL.out HTm.out (by decide) (by decide)
   have OSr:=hid (aX OS.out HTm.out (by decide) (by decide))
   obtain⟨bl,ol,rfl,hbl,on⟩:=(OwnS.row OLr).at hlt
   obtain⟨a0,a1,a2⟩:=bL on
   rw[show j*aE.m=j*3 from rfl] at a0 a1 a2
   have HM:=hid (show m+2 ^ (k+1)<=1000000 from by
    have x1:=HT2.out
    rw[Nat.pow_succ 2 (k+1)] at x1
    have hj1:j<=1:=by omega
    have y1:=Nat.mul_le_mul_right (2 ^ (k+1)-1) hj1
    have y3:1<=2 ^ (k+1):=Nat.one_le_two_pow
    omega)
   have HMN:=hid hmn
   rw[hdr] at HSK
   have HXI:=hid (show True from trivial)
   generalize L[j]=x at a0 a1 a2 HSK
   have hws:=HH.out.1.size
   clear OLr hdr on hmn HXI
   have HE0:=hid (AtB wr)
   have KX:=hid (λW (hb:Below wr.heap.size wr W)=>show W.cell? ⟨bl,ol+j*3,none⟩=some (.int .i64 x.s)/\W.cell? ⟨bl,ol+j*3+1,none⟩=some (.int .i64 x.f)/\W.cell? ⟨bl,ol+j*3+2,none⟩=some (.int .i64 x.t) from⟨(hb.cell (p:=⟨bl,ol+j*3,none⟩) hbl).trans a0,(hb.cell (p:=⟨bl,ol+j*3+1,none⟩) hbl).trans a1,(hb.cell (p:=⟨bl,ol+j*3+2,none⟩) hbl).trans a2⟩)
   go_upto_region 9 with fail
   go_cut [14] from 76 to 128 (λs14 w'=>w'.ownsRow wr.heap.size 129 3 s14 (st.length+1) (aE.all (st++[x]))/\Below wr.heap.size wr w')
   case first =>
    --[
    go_region_held3 (λW=>W.cell? ⟨bl,ol+j*3,none⟩=some (.int .i64 x.s)/\W.cell? ⟨bl,ol+j*3+1,none⟩=some (.int .i64 x.f)/\W.cell? ⟨bl,ol+j*3+2,none⟩=some (.int .i64 x.t))
     (first|with_reducible exact KX.out _ HE0.out.drew|with_reducible exact KX.out _ hb4|with_reducible exact KX.out _ hb3|(go_keep;done))
     (first
     | (refine aM (by rfl) (.tmp 82) (.tmp 83) 86 (by rfl) wr.heap.size 129 i0 _ 3 24 Tryz.underlying86 hi hz0 hz1 hz2 rfl (by decide) (.slice (some ⟨wr.heap.size,0,none⟩) 0 0) 0 [] (by rfl) ((dY wr rfl (ArR _)).drew) w0.heap.size (.slice B st.length d) st.length (aE.all st) (by rfl) ((OSr.out.alloc _).drew) (aE.all_single st) (by unfold maxLen;omega) (by omega) (by first|omega|simp<;>omega) (λh0=>HNS.out h0) ?_
        intro v1 w3 hown1 hg1
        have hb3:Below wr.heap.size wr w3:=Below.grown (((AtB wr).alloc (by first|omega|simp<;>omega) _).drew) hg1 (by first|omega|simp<;>omega) (λk hk=>by cases hk;first|omega|simp<;>omega)
        have hgl3:=hb3.size)
     | (refine aM (by rfl) (.tmp 82) (.tmp 83) 86 (by rfl) wr.heap.size 129 i0 _ 3 24 Tryz.underlying86 hi hz0 hz1 hz2 rfl (by decide) (.slice (some ⟨wr.heap.size,0,none⟩) 0 0) 0 [] (by rfl) (((dY wr rfl (ArR _)).alloc _).drew) w0.heap.size (.slice B st.length d) st.length (aE.all st) (by rfl) (((OSr.out.alloc _).alloc _).drew) (aE.all_single st) (by unfold maxLen;omega) (by omega) (by first|omega|simp<;>omega) (λh0=>HNS.out h0) ?_
        intro v1 w3 hown1 hg1
        have hb3:Below wr.heap.size wr w3:=Below.grown ((((AtB wr).alloc (by first|omega|simp<;>omega) _).alloc (by first|omega|simp<;>omega) _).drew) hg1 (by first|omega|simp<;>omega) (λk hk=>by cases hk;first|omega|simp<;>omega)
        have hgl3:=hb3.size
        have hx3:OwnS wr.heap.size w3 (some ⟨wr.heap.size+1,0,none⟩) 1 [x]:=aL (World.ownsRow.drew (cT (wr.alloc (.cells #[] 129)) x (g:=wr.heap.size+1) (base:=wr.heap.size) (by simp))) (λk hk=>by cases hk;exact hg1.block _ (by first|omega|simp<;>omega) (λh=>by simp[Value.ownBlock] at h)))
     | (refine aM (by rfl) (.tmp 82) (.tmp 83) 86 (by rfl) wr.heap.size 129 i0 _ 3 24 Tryz.underlying86 hi hz0 hz1 hz2 rfl (by decide) (.slice (some ⟨wr.heap.size+1,0,none⟩) 0 0) 0 [] (by rfl) ((dY (wr.alloc (.cells #[.int .i64 x.s,.int .i64 x.f,.int .i64 x.t] 129)) (by simp) (by simp)).drew) w0.heap.size (.slice B st.length d) st.length (aE.all st) (by rfl) (((OSr.out.alloc _).alloc _).drew) (aE.all_single st) (by unfold maxLen;omega) (by omega) (by first|omega|simp<;>omega) (λh0=>HNS.out h0) ?_
        intro v1 w3 hown1 hg1
        have hb3:Below wr.heap.size wr w3:=Below.grown ((((AtB wr).alloc (by first|omega|simp<;>omega) _).alloc (by first|omega|simp<;>omega) _).drew) hg1 (by first|omega|simp<;>omega) (λk hk=>by cases hk;first|omega|simp<;>omega)
        have hgl3:=hb3.size
        have hx3:OwnS wr.heap.size w3 (some ⟨wr.heap.size,0,none⟩) 1 [x]:=aL (World.ownsRow.drew (World.ownsRow.alloc (cT wr x (g:=wr.heap.size) (base:=wr.heap.size) rfl (ArR _)) _)) (λk hk=>by cases hk;exact hg1.block _ (by first|omega|simp<;>omega) (λh=>by simp[Value.ownBlock] at h)))
     | (refine aM (by rfl) (.tmp 84) (.tmp 89) 86 (by rfl) wr.heap.size 129 i0 _ 3 24 Tryz.underlying86 hi hz0 hz1 hz2 rfl (by decide) v1 (0+st.length) ([]++aE.all st) (by rfl) (by first|exact hown1|exact hown1.alloc _) wr.heap.size (.slice (some ⟨w3.heap.size,0,none⟩) 1 1) 1 (aE.all [x]) (by rfl) (cT w3 x rfl hgl3) (aE.all_single [x]) (by unfold maxLen;omega) (by omega) (by first|omega|simp<;>omega) (λh0=>by cases h0) ?_
        intro v2 w4 hown2 hg2
        have hb4:Below wr.heap.size wr w4:=Below.grown (hb3.alloc hb3.size _) hg2 (by first|omega|simp<;>omega) (λk hk=>(hown1.lt k hk).1))
     | (refine aM (by rfl) (.tmp 84) (.tmp 89) 86 (by rfl) wr.heap.size 129 i0 _ 3 24 Tryz.underlying86 hi hz0 hz1 hz2 rfl (by decide) v1 (0+st.length) ([]++aE.all st) (by rfl) (by first|exact hown1|exact hown1.alloc _) wr.heap.size (.slice (some ⟨wr.heap.size+1,0,none⟩) 1 1) 1 (aE.all [x]) (by rfl) (hx3) (aE.all_single [x]) (by unfold maxLen;omega) (by omega) (by first|omega|simp<;>omega) (λh0=>by cases h0) ?_
        intro v2 w4 hown2 hg2
        have hb4:Below wr.heap.size wr w4:=Below.grown (hb3) hg2 (by first|omega|simp<;>omega) (λk hk=>(hown1.lt k hk).1))
     | (refine aM (by rfl) (.tmp 84) (.tmp 89) 86 (by rfl) wr.heap.size 129 i0 _ 3 24 Tryz.underlying86 hi hz0 hz1 hz2 rfl (by decide) v1 (0+st.length) ([]++aE.all st) (by rfl) (by first|exact hown1|exact hown1.alloc _) wr.heap.size (.slice (some ⟨wr.heap.size,0,none⟩) 1 1) 1 (aE.all [x]) (by rfl) (hx3) (aE.all_single [x]) (by unfold maxLen;omega) (by omega) (by first|omega|simp<;>omega) (λh0=>by cases h0) ?_
        intro v2 w4 hown2 hg2
        have hb4:Below wr.heap.size wr w4:=Below.grown (hb3) hg2 (by first|omega|simp<;>omega) (λk hk=>(hown1.lt k hk).1)))
    all_goals go_wp2_with fail
    all_goals go_meet
    all_goals (refine⟨?_,hb4⟩;rw[aE.all_append];rw[Nat.zero_add,List.nil_append] at hown2;exact hown2)
    --]
   case rest =>
    obtain⟨hq,hbq⟩:=hcut
    obtain⟨-,Bq,dq,rfl,-,-⟩:=Lies.Row.of_own (E:=aE) (n:=st.length+1) (L:=st++[x]) hq
    have HQ:=hid (show OwnS w0.heap.size wc Bq dq (st++[x]) from by unfold OwnS;rw[ArV];exact fC hq hws)
    have HHq:=hid (HH.out.below hbq)
    have HTq:=hid (HTm.out.trans (Below.tame hbq _ _))
    have e2:=(hbq.cell (p:=⟨bl,ol+j*3+2,none⟩) hbl).trans a2
    have hblq:bl<wc.heap.size:=AsE hbl hbq.size
    obtain⟨⟨p0,p1,p2,p3,p4,p5,-,-,-⟩,-,gg⟩:=row9 HHq.out.2.2
    have CN:=hid (λW (hb:Below wc.heap.size wc W)=>dB p (some ⟨bS,oS,none⟩) c A' c' (i:Int) x.t W (HI.out.below (HHq.out.1.trans (hb.mono HHq.out.1.size))))
    clear hq hbq a0 a1 a2 hbl HE0 KX
    generalize hnx:Wk.next p (i:Int) x.t=nx at CN
    have HNX:=hid hnx
    obtain⟨n1,n2,n3⟩:=nx
    clear hnx
    generalize wc=w7 at HQ HHq HTq e2 hblq p0 p1 p2 p3 p4 p5 gg CN ⊢
    have B7:=hid (AtB w7)
    go_upto_region 10 with fail
    go_cut [15,16,17] from 76 to 128 (λs15 s16 s17 w'=>(s15=.int .i64 n1/\s16=.int .i64 n2/\s17=.bool n3)/\Below w7.heap.size w7 w')
    case first =>
     --[
     have KS:=hid (λW (hb:Below w7.heap.size w7 W)=>show (W.cell? ⟨g,0,none⟩=some (.int .i64 p.ov)/\W.cell? ⟨g,1,none⟩=some (.int .i64 p.ap)/\W.cell? ⟨g,2,none⟩=some (.int .i64 p.se)/\W.cell? ⟨g,3,none⟩=some (.int .i64 p.ho)/\W.cell? ⟨g,4,none⟩=some (.slice (some ⟨bS,oS,none⟩) p.secs.length c)/\W.cell? ⟨g,5,none⟩=some (.slice A' p.sigs.length c'))/\W.cell? ⟨bl,ol+j*3+2,none⟩=some (.int .i64 x.t) from⟨⟨(hb.cell (p:=⟨g,0,none⟩) gg).trans p0,(hb.cell (p:=⟨g,1,none⟩) gg).trans p1,(hb.cell (p:=⟨g,2,none⟩) gg).trans p2,(hb.cell (p:=⟨g,3,none⟩) gg).trans p3,(hb.cell (p:=⟨g,4,none⟩) gg).trans p4,(hb.cell (p:=⟨g,5,none⟩) gg).trans p5⟩,(hb.cell (p:=⟨bl,ol+j*3+2,none⟩) hblq).trans e2⟩)
     have CM:=hid (λW (hb:Below w7.heap.size w7 W)=>Made.of (w:=w7) hb (CN.out W hb))
     go_region_held3 (λW=>(W.cell? ⟨g,0,none⟩=some (.int .i64 p.ov)/\W.cell? ⟨g,1,none⟩=some (.int .i64 p.ap)/\W.cell? ⟨g,2,none⟩=some (.int .i64 p.se)/\W.cell? ⟨g,3,none⟩=some (.int .i64 p.ho)/\W.cell? ⟨g,4,none⟩=some (.slice (some ⟨bS,oS,none⟩) p.secs.length c)/\W.cell? ⟨g,5,none⟩=some (.slice A' p.sigs.length c'))/\W.cell? ⟨bl,ol+j*3+2,none⟩=some (.int .i64 x.t))
      (first|with_reducible exact KS.out _ B7.out.drew|with_reducible exact KS.out _ hacc)
      (first|(go_at_call 72;(with_reducible refine(CM.out _ B7.out.drew).mono ?_);rintro e w' ⟨rfl,hbl,hacc,hz⟩))
     all_goals go_wp2_with fail
     all_goals go_meet
     all_goals exact⟨⟨rfl,rfl,rfl⟩,hacc⟩
     --]
    case rest =>
     obtain⟨⟨rfl,rfl,rfl⟩,hb9⟩:=hcut
     have HQ9:=hid (aA HQ.out hb9)
     have HH9:=hid (HHq.out.below hb9)
     have HTQ:=hid (HTq.out.trans (Below.tame hb9 _ _))
     have HT9:=hid (T5.out.trans HTQ.out)
     clear hb9 e2 hblq p0 p1 p2 p3 p4 p5 gg CN HQ HHq HTq B7
     generalize wc=w9 at HQ9 HH9 HT9 HTQ ⊢
     have hlx:(st++[x]).length=st.length+1:=by rw[ArV];rfl
     have HLX:=hid hlx
     obtain⟨⟨r0,r1,r2,r3,r4,r5,-,-,-⟩,-,gg9⟩:=row9 HH9.out.2.2
     --[
     cases hls:Lp.lasts p sm i x with
     | true =>
       have HG2:=hid (show Lp.seek p go i sm st L (n+1)=(some (st++[x]),m) from HSK.out.trans (Lp.sC hls))
       have FIN:=hid (show cN p (some ⟨bS,oS,none⟩) c A' c' b (.slice Aw way.length cw) g w0 (Lp.seek p go i sm st L (n+1)) w (.returned (.tuple #[.slice Bq (st.length+1) dq,.bool true])) w9 from by
        rw[HG2.out,<-HLX.out]
        exact⟨Bq,dq,rfl,HQ9.out,HH9.out,HT9.out⟩)
       have hway:n3=false∨p.ov<=sm:=by
        have:=Lp.lasts_true hls
        rwa [HNX.out] at this
       clear hls hlx
       rcases (show n3=false∨(n3=true/\p.ov<=sm) by cases n3;exact .inl rfl;exact .inr ⟨rfl,hway.resolve_left (by decide)⟩) with rfl|⟨rfl,h0⟩
       all_goals clear hway
       ·go_wp2_with fail
        refine bodyPost_ret ?_ rfl FIN.out
        simp[results,Tryz.results119,go_sem]
       have D:decide (p.ov<=sm)=true:=aC h0
       clear h0
       go_wp2_with fail
       refine bodyPost_ret ?_ rfl FIN.out
       simp[results,Tryz.results119,go_sem]
     | false =>
       obtain⟨h1',h0⟩:=Lp.lasts_false hls
       rw[HNX.out] at h1'
       have D:decide (p.ov<=sm)=false:=aB (by omega)
       have hin:=Lp.next_in HF.out (s:=(i:Int)) (e:=x.t) (by rw[HNX.out];exact h1')
       rw[HNX.out] at hin
       obtain⟨i2,f2,hi2,hl2,-,-⟩:=hin
       obtain rfl:n3=true:=h1'
       have ih:=HIH.out n1 n2 (st++[x]) Bq dq sm m w9 HH9.out HQ9.out (λh=>by simp at h) (by have:=HL.out;omega) HM.out ⟨i2,hi2,hl2⟩ (by rw[hlx];exact HSM.out)
       have hgo:Lp.enter p b way k n1 n2 (st++[x]) sm m=go n1 n2 (st++[x]) m:=by rw[<-HGO.out]
       rw[hlx,hgo] at ih
       have HGB:=hid (show (go n1 n2 (st++[x]) m).2<=m+(2 ^ (k+1)-1) from by rw[<-hgo];exact HG.out _ _ _ _)
       have HGE:=hid (show ∀ r,go n1 n2 (st++[x]) m=r->go (Wk.next p i x.t).1 (Wk.next p i x.t).2.1 (st++[x]) m=r from λr hr=>by rw[HNX.out];exact hr)
       generalize hgr:go n1 n2 (st++[x]) m=r at ih HGB
       obtain⟨o,m1⟩:=r
       have HGR:=hid (HGE.out _ hgr)
       clear hgr hgo hlx h0 hi2 hl2
       cases o with
       | some r =>
         have HG2:=hid (show Lp.seek p go i sm st L (n+1)=(some r,m1) from HSK.out.trans (Lp.yD hls HGR.out))
         have CI:=hid (show Calls Tryz.prog 119 #[.pointer (some ⟨g,0,none⟩),.int .i64 n1,.int .i64 n2,.slice Bq (st.length+1) dq,.int .i64 sm] w9 (λe w'=>∃ B d,e=.returned (.tuple #[.slice B r.length d,.bool true])/\OwnS w0.heap.size w' B d r/\LookAt p (some ⟨bS,oS,none⟩) c A' c' b (.slice Aw way.length cw) g w0 w' m1/\sB w9 w') from ih)
         clear ih hls
         go_wp2_with fail
         refine CI.out.mono ?_;rintro e w10 ⟨B1,d1,rfl,ho1,hL1,hT1⟩
         have FIN:=hid (show cN p (some ⟨bS,oS,none⟩) c A' c' b (.slice Aw way.length cw) g w0 (Lp.seek p go i sm st L (n+1)) w (.returned (.tuple #[.slice B1 r.length d1,.bool true])) w10 from by
          rw[HG2.out]
          exact⟨B1,d1,rfl,ho1,hL1,HT9.out.trans hT1⟩)
         clear ho1 hL1 hT1
         go_wp2_with fail
         refine bodyPost_ret ?_ rfl FIN.out
         simp[results,Tryz.results119,go_sem]
       | none =>
         have HG2:=hid (show Lp.seek p go i sm st L (n+1)=Lp.seek p go i sm st (L.drop (j+1)) m1 from HSK.out.trans (Lp.AeK hls HGR.out))
         have CI:=hid (show Calls Tryz.prog 119 #[.pointer (some ⟨g,0,none⟩),.int .i64 n1,.int .i64 n2,.slice Bq (st.length+1) dq,.int .i64 sm] w9 (λe w'=>∃ B d,e=.returned (.tuple #[.slice B 0 d,.bool false])/\OwnS w0.heap.size w' B d []/\LookAt p (some ⟨bS,oS,none⟩) c A' c' b (.slice Aw way.length cw) g w0 w' m1/\sB w9 w') from ih)
         clear ih hls
         go_wp2_with fail
         refine CI.out.mono ?_;rintro e w10 ⟨B1,d1,rfl,ho1,hL1,hT1⟩
         have H10:=hid hL1
         have T10:=hid hT1
         clear ho1 hL1 hT1
         go_wp2
         go_roundw
         case rel=>exact⟨j+1,m1,by omega,by go_num,H10.out,HTQ.out.trans T10.out,by have h1:m1<=m+(2 ^ (k+1)-1):=HGB.out;have h2:=HMN.out;rw[Nat.succ_mul];omega,HG2.out⟩
         case measure=>simp[intOf];omega
     --]
  obtain rfl:j=L.length:=by omega
  have FIN:=hid (show cN p (some ⟨bS,oS,none⟩) c A' c' b (.slice Aw way.length cw) g w0 (Lp.seek p go i sm st L (n+1)) w (.returned (.tuple #[.slice none 0 0,.bool false])) wr from by
   rw[HSK.out,List.drop_length]
   exact⟨none,0,rfl,World.ownsRow_nil _ _ _ _,HH.out,T5.out.trans HTm.out⟩)
  go_wp2_with fail
  refine bodyPost_ret ?_ rfl FIN.out
  simp[results,Tryz.results119,go_sem]
end
open Go.RowKit
theorem mF {p:Pl.Plan} {A:Option Addr} {c:Nat} {A':Option Addr} {c':Nat} {b:Int} {g:Nat} {w0:World} {way:List Wk.Stp} {Aw:Option Addr} {cw:Nat} (hI:PlanIn w0 p A A') (hf:Pl.Fit p) (hm:Lp.Meas p) (hway:aE.Row w0 Aw way) (hwl:way.length<=1000) :
 ∀ (k:Nat) (s f:Int) (st:List Wk.Stp) (B:Option Addr) (d:Nat) (sum:Int) (n:Nat) (wr:World),LookAt p A c A' c' b (.slice Aw way.length cw) g w0 wr n->OwnS w0.heap.size wr B d st->(st=[]->B=none/\d=0)->st.length+k=16->n+2 ^ (k+1)<=1000000->(∃ i:Nat,s=i/\i<p.secs.length)->(0<=sum/\sum<=(st.length:Int)*1099511627776) ->
   Calls Tryz.prog 119 #[.pointer (some ⟨g,0,none⟩),.int .i64 s,.int .i64 f,.slice B st.length d,.int .i64 sum] wr (cN p A c A' c' b (.slice Aw way.length cw) g w0 (Lp.enter p b way k s f st sum n) wr)
 | 0,s,f,st,B,d,sum,n,wr,hh,ho,_,hl,ht,_,_=>kF hway hwl s f st B d sum hh ho (by omega) (by omega) (.inr (by omega))
 | k + 1,s,f,st,B,d,sum,n,wr,hh,ho,hn,hl,ht,hs,hsum=>by
   cases hT:decide (400<n+1) || Lp.bars b way st s with
   | true =>
     rw[Lp.enter,ArZ hT]
     exact kF hway hwl s f st B d sum hh ho (by omega) (ArS (Nat.le_add_right _ _) ht) (.inl hT)
   | false =>
     rw[Lp.enter,ArY (by rw[hT];decide)]
     exact uS hI hf hm hway hwl k (λs f st B d sum n wr=>mF hI hf hm hway hwl k s f st B d sum n wr) s f st B d sum hh ho hn hl ht hs hsum hT
def LapYes (x:List Wk.Stp × Int) (w:World) (e:Ending) (w':World):Prop:=∃ B d,e=.returned (.tuple #[.slice B x.1.length d,.int .i64 x.2])/\TRow 129 aE w' B x.1/\x.1.length<=d/\Below w.heap.size w w'
theorem LapYes.nil {w w':World} (e:Int) (hb:Below w.heap.size w w'):LapYes ([],e) w (.returned (.tuple #[.slice none 0 0,.int .i64 e])) w':=⟨none,0,rfl,.inl rfl,ArR _,hb⟩
abbrev AhJ (A:Option Addr) (c:Nat) (y:Cr.Way):Value:=.agg #[.slice A y.steps.length c,.int .i64 y.exit]
abbrev eW (A:Option Addr) (n c:Nat) (ex:Int):Obj:=.cells #[.slice A n c,.int .i64 ex] 88
theorem pI {w:World} {g:Nat} {a b:Value} {t:TypeId} (h:w.heap[g]?=some (.cells #[a,b] t (0,0))):(w.cell? ⟨g,0,none⟩=some a/\w.cell? ⟨g,1,none⟩=some b)/\(w.frozen? ⟨g,0,none⟩=false/\w.frozen? ⟨g,1,none⟩=false)/\g<w.heap.size :=
 ⟨⟨AsY w g 0 _ t _ h,AsY w g 1 _ t _ h⟩,⟨AsZ w g 0 _ t h,AsZ w g 1 _ t h⟩,(ArL h).1⟩
theorem Lp.of_bad {p:Pl.Plan} {i:Int} (h:Cr.sigAt p i=none) (y:Cr.Way):Lp.of p i y=([],4):=by unfold Lp.of;rw[h]
theorem Lp.of_exit {p:Pl.Plan} {i:Int} {g:Pl.Sig} (h:Cr.sigAt p i=some g) {y:Cr.Way} (hy:(p.sigs.length:Int)<=y.exit):Lp.of p i y=([],4):=by unfold Lp.of;rw[h];simp only;rw[ArZ hy]
theorem AoI (p:Pl.Plan) (hf:Pl.Fit p) (hm:Lp.Meas p) (A:Option Addr) (c:Nat) (A':Option Addr) (c':Nat) (i:Int) (way:List Wk.Stp) (ex:Int) (Aw:Option Addr) (cw:Nat) (w:World) (h:PlanIn w p A A') (hway:aE.Row w Aw way) (hwl:way.length<=1000) :
 Calls Tryz.prog 74 #[aR p A c A' c',.int .i64 i,.agg #[.slice Aw way.length cw,.int .i64 ex]] w (LapYes (Lp.of p i ⟨way,ex⟩) w):=by
 have XA:=(AtB w).alloc (ArR _) (aD p A c A' c')
 have X0:=hid (XA.alloc XA.size (eW Aw way.length cw ex))
 have RP:=hid ((heap_alloc_old (w.alloc (aD p A c A' c')) (eW Aw way.length cw ex) (show w.heap.size<(w.alloc (aD p A c A' c')).heap.size by simp)).trans (AsW w (aD p A c A' c')))
 have RY:=hid (show ((w.alloc (aD p A c A' c')).alloc (eW Aw way.length cw ex)).heap[w.heap.size+1]?=some (eW Aw way.length cw ex) from by
  have:=AsW (w.alloc (aD p A c A' c')) (eW Aw way.length cw ex)
  rwa [show (w.alloc (aD p A c A' c')).heap.size=w.heap.size+1 by simp] at this)
 obtain⟨⟨p0,p1,p2,p3,p4,p5⟩,-,gp⟩:=row6 RP.out
 obtain⟨⟨y0,y1⟩,-,gy⟩:=pI RY.out
 have HI:=hid (h.below X0.out)
 have HW:=hid (hway.below rfl X0.out)
 clear XA h hway
 rcases Cr.sigAt_ways p i with ⟨hs,hn⟩|⟨k,rfl,⟨hk,hn⟩|⟨x1,hx1,hn⟩⟩
 ·have D:decide (i<0)=true:=aC hs
  rw[Lp.of_bad hn]
  clear hs hn
  go_enter Tryz.func74,Tryz.ntmps74
  go_wp2_with fail
  refine bodyPost_ret ?_ rfl (LapYes.nil 4 X0.out)
  simp[results,Tryz.results74,go_sem]
 ·have D0:decide ((k:Int)<0)=false:=aB (by omega)
  have D1:decide ((p.sigs.length:Int)<=(k:Int))=true:=aC (by omega)
  rw[Lp.of_bad hn]
  clear hn
  go_enter Tryz.func74,Tryz.ntmps74
  go_wp2_with fail
  refine bodyPost_ret ?_ rfl (LapYes.nil 4 X0.out)
  simp[results,Tryz.results74,go_sem]
 have hlt:k<p.sigs.length:=(ArM hx1).1
 have D0:decide ((k:Int)<0)=false:=aB (by omega)
 have D1:decide ((p.sigs.length:Int)<=(k:Int))=false:=aB (by omega)
 have N1:¬ p.sigs.length<=k:=by omega
 by_cases he:(p.sigs.length:Int)<=ex
 ·have D2:decide ((p.sigs.length:Int)<=ex)=true:=aC he
  rw[Lp.of_exit (y:=⟨way,ex⟩) hn he]
  clear hn he hx1
  go_enter Tryz.func74,Tryz.ntmps74
  go_wp2_with fail
  refine bodyPost_ret ?_ rfl (LapYes.nil 4 X0.out)
  simp[results,Tryz.results74,go_sem]
 have D2:decide ((p.sigs.length:Int)<=ex)=false:=aB he
 have he2:ex<p.sigs.length:=by omega
 by_cases he0:ex<0
 ·have D3:decide (ex<0)=true:=aC he0
  rw[Lp.of_nought (w:=⟨way,ex⟩) hn he2 (.inl he0)]
  clear hn he hx1 he2 he0
  go_enter Tryz.func74,Tryz.ntmps74
  go_wp2_with fail
  refine bodyPost_ret ?_ rfl (LapYes.nil 0 X0.out)
  simp[results,Tryz.results74,go_sem]
 have D3:decide (ex<0)=false:=aB he0
 by_cases hov:p.ov=0
 ·have D4:(p.ov == 0)=true:=by rw[beq_iff_eq];exact hov
  rw[Lp.of_nought (w:=⟨way,ex⟩) hn he2 (.inr hov)]
  clear hn he hx1 he2 he0 hov
  go_enter Tryz.func74,Tryz.ntmps74
  go_wp2_with fail
  refine bodyPost_ret ?_ rfl (LapYes.nil 0 X0.out)
  simp[results,Tryz.results74,go_sem]
 have D4:(p.ov == 0)=false:=by rw[ArU];exact hov
 rcases Lp.of_eq (w:=⟨way,ex⟩) hn he2 with ⟨h',-⟩|⟨-,-,x,hx,hof⟩
 ·rcases h' with h'|h'
  ·exact absurd h' he0
  exact absurd h' hov
 rw[hof]
 obtain⟨e,rfl⟩:∃ e:Nat,ex=e:=⟨ex.toNat,by omega⟩
 simp only at hx
 have hxe:p.sigs[e]?=some x:=by
  unfold Cr.sigAt at hx
  rw[ArY (by omega),AsP] at hx
  exact hx
 have hel:=(ArM hxe).1
 obtain⟨b,o,rfl,hb,on⟩:=HI.out.2.at hlt
 obtain⟨b',o',hbo,-,on'⟩:=HI.out.2.at hel
 cases hbo
 rw[(ArM hx1).2] at on
 rw[(ArM hxe).2] at on'
 obtain⟨-,b1,-⟩:=cF on
 obtain⟨a0,a1,a2⟩:=cF on'
 rw[show k*bD.m=k*3 from rfl] at b1
 rw[show e*bD.m=e*3 from rfl] at a0 a1 a2
 clear on on' hn hx1 hx hxe hof he he0 he2 hov hlt
 obtain⟨xn,xs,xe⟩:=x
 simp only at a0 a1 a2
 have i0:(0:Int)<=(e:Int):=ArT e
 have i1:(e:Int)<(p.sigs.length:Int):=by omega
 have i2:(0:Int)<=(k:Int):=ArT k
 have i3:(k:Int)<(p.sigs.length:Int):=by omega
 have hsg:=hid hel
 clear hel
 generalize hwB:(w.alloc (aD p A c (some ⟨b,o,none⟩) c')).alloc (eW Aw way.length cw e)=wB at *
 have hz:wB.heap.size=w.heap.size+1+1:=by rw[<-hwB];simp
 have HX:=hid (show (wB.alloc (.cells #[.string (txt xn),.int .i64 xs,.int .i64 xe] 58)).heap[w.heap.size+1+1]?=some (.cells #[.string (txt xn),.int .i64 xs,.int .i64 xe] 58) from by rw[<-hz];exact AsW wB _)
 clear hz
 have TX:=hid ((AtB wB).alloc (ArR _) (.cells #[.string (txt xn),.int .i64 xs,.int .i64 xe] 58))
 subst hwB
 go_enter Tryz.func74,Tryz.ntmps74
 go_upto_region 6 with fail
 clear a0 a1 a2
 generalize (w.alloc (aD p A c (some ⟨b,o,none⟩) c')).alloc (eW Aw way.length cw e)=wB at *
 generalize wB.alloc (.cells #[.string (txt xn),.int .i64 xs,.int .i64 xe] 58)=w2 at HX TX ⊢
 generalize w.heap.size+1+1=g2 at HX ⊢
 have KI:=hid (λW (hW:Below w2.heap.size w2 W)=>HI.out.below (TX.out.trans (hW.mono TX.out.size)))
 have HW2:=hid (HW.out.below rfl TX.out)
 have B2:=hid (X0.out.trans (TX.out.mono X0.out.size))
 have RP2:=hid ((TX.out.block _ gp).trans RP.out)
 have RY2:=hid ((TX.out.block _ gy).trans RY.out)
 have c1:=(TX.out.cell (p:=⟨b,o+k*3+1,none⟩) hb).trans b1
 have gx2:=(ArL HX.out).1
 clear p0 p1 p2 p3 p4 p5 gp y0 y1 gy b1 hb HI HW RP RY X0 TX
 obtain⟨⟨p0,p1,p2,p3,p4,p5⟩,-,gp⟩:=row6 RP2.out
 obtain⟨⟨y0,y1⟩,-,gy⟩:=pI RY2.out
 obtain⟨⟨t0,t1,t2⟩,-,-⟩:=row3 HX.out
 have HL:=hid (AsW w2 (.cells #[.int .i64 p.ov,.int .i64 p.ap,.int .i64 p.se,.int .i64 p.ho,.slice A p.secs.length c,.slice (some ⟨b,o,none⟩) p.sigs.length c',.int .i64 x1.sec,.slice Aw way.length cw,.int .i64 0] 175))
 have TL:=hid ((AtB w2).alloc (ArR _) (.cells #[.int .i64 p.ov,.int .i64 p.ap,.int .i64 p.se,.int .i64 p.ho,.slice A p.secs.length c,.slice (some ⟨b,o,none⟩) p.sigs.length c',.int .i64 x1.sec,.slice Aw way.length cw,.int .i64 0] 175))
 go_region
 go_upto_region 7 with fail
 clear p0 p1 p2 p3 p4 p5 y0 y1 t0 t1 t2 c1 gy RY2
 generalize w2.alloc (.cells #[.int .i64 p.ov,.int .i64 p.ap,.int .i64 p.se,.int .i64 p.ho,.slice A p.secs.length c,.slice (some ⟨b,o,none⟩) p.sigs.length c',.int .i64 x1.sec,.slice Aw way.length cw,.int .i64 0] 175)=w3a at HL TL ⊢
 have TL3:=hid TL.out.drew
 have HL3:=hid (show w3a.drew.heap[w2.heap.size]?=some (.cells #[.int .i64 p.ov,.int .i64 p.ap,.int .i64 p.se,.int .i64 p.ho,.slice A p.secs.length c,.slice (some ⟨b,o,none⟩) p.sigs.length c',.int .i64 x1.sec,.slice Aw way.length cw,.int .i64 0] 175) from HL.out)
 clear TL HL
 generalize w3a.drew=w3 at HL3 TL3 ⊢
 generalize hg3:w2.heap.size=g3 at HL3 ⊢
 have HG3:=hid (Nat.le_of_eq hg3)
 clear hg3
 have HLK:=hid (λW (hW:Below w3.heap.size w3 W)=>show LookAt p A c (some ⟨b,o,none⟩) c' x1.sec (.slice Aw way.length cw) g3 w2 W 0 from⟨TL3.out.trans (hW.mono TL3.out.size),HG3.out,(hW.block _ (ArL HL3.out).1).trans HL3.out⟩)
 obtain⟨⟨p0,p1,p2,p3,p4,p5⟩,-,-⟩:=row6 ((TL3.out.block _ gp).trans RP2.out)
 obtain⟨⟨t0,t1,t2⟩,-,-⟩:=row3 ((TL3.out.block _ gx2).trans HX.out)
 have CN:=hid (λW (hb:Below w2.heap.size w2 W)=>dB p A c (some ⟨b,o,none⟩) c' xs xe W (KI.out W hb))
 have HFM:=hid (AsG hf hm)
 have hin:=λh=>Lp.next_in hf (s:=xs) (e:=xe) h
 have HWL:=hid hwl
 have P1:=hid (show Lp.ofSig p x1.sec way ⟨xn,xs,xe⟩=if (Wk.next p xs xe).2.2 then(if 400<(Lp.enter p x1.sec way 16 (Wk.next p xs xe).1 (Wk.next p xs xe).2.1 [] 0 0).2 then([],10) else((Lp.enter p x1.sec way 16 (Wk.next p xs xe).1 (Wk.next p xs xe).2.1 [] 0 0).1.getD [],0)) else([],0) from rfl)
 clear hf hm hwl
 generalize hnx:Wk.next p xs xe=nx at CN hin P1
 obtain⟨n1,n2,n3⟩:=nx
 clear hnx
 go_wp2_with fail
 refine(CN.out _ TL3.out).mono ?_;rintro e' w4 ⟨rfl,hb4⟩
 clear p0 p1 p2 p3 p4 p5 t0 t1 t2 CN
 have B4:=hid hb4
 clear hb4
 cases n3 with
 | false =>
   have FIN:=hid (show LapYes (Lp.ofSig p x1.sec way ⟨xn,xs,xe⟩) w (.returned (.tuple #[.slice none 0 0,.int .i64 0])) w4 from by
    rw[P1.out]
    exact LapYes.nil 0 (B2.out.trans ((TL3.out.trans (B4.out.mono TL3.out.size)).mono B2.out.size)))
   go_wp2_with fail
   refine bodyPost_ret ?_ rfl FIN.out
   simp[results,Tryz.results74,go_sem]
 | true =>
   obtain⟨i4,f4,hi4,hl4,-,-⟩:=hin rfl
   have CE:=hid (mF (g:=g3) (KI.out _ (Below.refl _ _)) HFM.out.1 HFM.out.2 HW2.out HWL.out 16 n1 n2 [] none 0 0 0 w4 (HLK.out _ B4.out) (World.ownsRow_nil _ _ _ _) (λ_=>⟨rfl,rfl⟩) rfl (by decide) ⟨i4,hi4,hl4⟩ ⟨Int.le_refl _,by simp⟩)
   have P2:=hid (show Lp.ofSig p x1.sec way ⟨xn,xs,xe⟩=(if 400<(Lp.enter p x1.sec way 16 n1 n2 [] 0 0).2 then([],10) else((Lp.enter p x1.sec way 16 n1 n2 [] 0 0).1.getD [],0)) from P1.out)
   clear hin hi4 hl4 P1
   have hel:=(Lp.enter_le p x1.sec way 16 n1 n2 [] 0 0).2
   generalize Lp.enter p x1.sec way 16 n1 n2 [] 0 0=r at CE P2 hel
   obtain⟨ro,m⟩:=r
   have CI:=hid (show Calls Tryz.prog 119 #[.pointer (some ⟨g3,0,none⟩),.int .i64 n1,.int .i64 n2,.slice none 0 0,.int .i64 0] w4 (λe w'=>∃ B d,e=.returned (.tuple #[.slice B (ro.getD []).length d,.bool ro.isSome])/\OwnS w2.heap.size w' B d (ro.getD [])/\LookAt p A c (some ⟨b,o,none⟩) c' x1.sec (.slice Aw way.length cw) g3 w2 w' m/\sB w4 w') from CE.out)
   clear CE
   have P3:=hid (show Lp.ofSig p x1.sec way ⟨xn,xs,xe⟩=(if 400<m then([],10) else(ro.getD [],0)) from P2.out)
   clear P2 hel
   generalize ro.getD []=l at CI P3
   generalize ro.isSome=ok at CI
   go_wp2_with fail
   refine CI.out.mono ?_;rintro e' w5 ⟨B,d,rfl,ho5,hl5,-⟩
   obtain⟨⟨-,-,-,-,-,-,-,-,r8⟩,-,gg⟩:=row9 hl5.2.2
   have HO5:=hid ho5
   have B5:=hid (B2.out.trans (hl5.1.mono B2.out.size))
   clear ho5 hl5
   by_cases h4:400<m
   ·have D:decide (400<(m:Int))=true:=aC (by omega)
    have FIN:=hid (show LapYes (Lp.ofSig p x1.sec way ⟨xn,xs,xe⟩) w (.returned (.tuple #[.slice none 0 0,.int .i64 10])) w5 from by
     rw[P3.out,ArZ h4]
     exact LapYes.nil 10 B5.out)
    clear h4
    go_wp2_with fail
    refine bodyPost_ret ?_ rfl FIN.out
    simp[results,Tryz.results74,go_sem]
   have D:decide (400<(m:Int))=false:=aB (by omega)
   have FIN:=hid (show LapYes (Lp.ofSig p x1.sec way ⟨xn,xs,xe⟩) w (.returned (.tuple #[.slice B l.length d,.int .i64 0])) w5 from by
    rw[P3.out,ArY h4]
    obtain⟨-,B',d',hv,hc,hS⟩:=TRow.of_own (E:=aE) HO5.out
    cases hv
    exact⟨B,d,rfl,hS,hc,B5.out⟩)
   clear h4
   go_wp2_with fail
   refine bodyPost_ret ?_ rfl FIN.out
   simp[results,Tryz.results74,go_sem]
theorem AlR (p:Pl.Plan) (hf:Pl.Fit p) (hm:Lp.Meas p) (A:Option Addr) (c:Nat) (A':Option Addr) (c':Nat) (i:Int) (y:Cr.Way) (Aw:Option Addr) (cw:Nat) (w:World) (h:PlanIn w p A A') (hway:aE.Row w Aw y.steps) (hwl:y.steps.length<=1000) :
 Calls Tryz.prog 74 #[aR p A c A' c',.int .i64 i,AhJ Aw cw y] w (LapYes (Lp.of p i y) w):=AoI p hf hm A c A' c' i y.steps y.exit Aw cw w h hway hwl
end Go.Proofs.YtjofpclmbjpgjaaGreat
