/- Lemmas. -/
import Derived.Test.YtjofpclmbjpgjaaGreatMk13
set_option maxHeartbeats 8000000
set_option maxRecDepth 100000
namespace Go.Proofs.YtjofpclmbjpgjaaGreat
open Lib (hid)
open Go.RowKit
theorem xU:(Tryz.prog.info? 129).map (λi=>(i.zero,i.size,i.bytes))=some (some (.agg #[.int .i64 0,.int .i64 0,.int .i64 0]),3,24):=by kernel_rfl
theorem AnZ:(Tryz.prog.info? 88).map (λi=>(i.zero,i.size,i.bytes))=some (some (.agg #[.slice none 0 0,.int .i64 0]),2,32):=by kernel_rfl
theorem dY (w:World) {g base:Nat} (hg:w.heap.size=g) (hb:base<=g):(w.alloc (.cells #[] 129)).ownsRow base 129 3 (.slice (some ⟨g,0,none⟩) 0 0) 0 []:=by
 subst hg
 exact⟨rfl,.inr ⟨w.heap.size,0,#[],rfl,hb,AsW _ _,ArR _,by unfold maxLen;omega,rfl,rfl⟩⟩
theorem pF {p:Pl.Plan} {b s f:Int} {st:List Wk.Stp} {h:Cr.HSt} (k:Nat) (hT:Cr.turns b s st h=true):Cr.enter p b k s f st h=Cr.came h:=by
 cases k <;> (unfold Cr.enter;rw[ArZ hT])
theorem AbP {p:Pl.Plan} {b s f:Int} {st:List Wk.Stp} {h:Cr.HSt} (hT:Cr.turns b s st h=false):Cr.enter p b 0 s f st h=⟨h.tries+1,true,h.out⟩:=by
 unfold Cr.enter;rw[ArY (by rw[hT];decide)]
theorem AbQ {p:Pl.Plan} {b s f:Int} {st:List Wk.Stp} {h:Cr.HSt} (k:Nat) (hT:Cr.turns b s st h=false):Cr.enter p b (k+1) s f st h=(Wk.outs p s f).foldl (Cr.gone p (Cr.enter p b k) s st) (Cr.came h):=by
 rw[Cr.enter,ArY (by rw[hT];decide)]
theorem xV {b s:Int} {st:List Wk.Stp} {h:Cr.HSt} (hT:Cr.turns b s st h=false):h.long=false/\¬ 400<h.tries+1/\(Cr.came h).long=false/\s≠b/\Wk.within st s=false:=by
 obtain⟨h1,h2,h3⟩:=Cr.turns_false (by rw[hT];decide:¬ Cr.turns b s st h=true)
 have h4:=h1
 unfold Cr.came at h4
 simp only[Bool.or_eq_false_iff,decide_eq_false_iff_not] at h4
 exact⟨h4.1,h4.2,h1,h2,h3⟩
section
variable {p : Pl.Plan} {A : Option Addr} {c : Nat} {A' : Option Addr} {c' : Nat} {b : Int} {g : Nat} {w0 wr : World} {v : Value} {h : Cr.HSt}
theorem uH (s f:Int) (st:List Wk.Stp) (B:Option Addr) (d:Nat) (hh:HuntAt p A c A' c' b g w0 wr v h) (ho:OwnS w0.heap.size wr B d st) (hl:st.length=16) (ht:h.tries<=1000000) (hT:Cr.turns b s st h=false) :
 Calls Tryz.prog 73 #[.pointer (some ⟨g,0,none⟩),.int .i64 s,.int .i64 f,.slice B st.length d] wr (fH p A c A' c' b g w0 ⟨h.tries+1,true,h.out⟩ wr):=by
 --[
 obtain⟨hlg,hm,P,hs,hwi⟩:=xV hT
 obtain⟨⟨p0,p1,p2,p3,p4,p5,p6,p7,p8,p9⟩,⟨f7,f8,f9⟩,gg⟩:=row10 hh.2.2.1
 have q1:IntKind.i64.wrap ((h.tries:Int)+1)=(h.tries:Int)+1:=IntWalk.i64_in _ (by omega)
 have hc0:=hh.came
 rw[P] at hc0
 have HC:=hid hc0
 have HF:=hid (hc0.1.far (l:=true))
 have OW:=hid ho
 rw[hlg] at p8
 have D:decide (400<(h.tries:Int)+1)=false:=aB (by omega)
 have E:(s == b)=false:=by rw[ArU];exact hs
 have CW:=hid (λW (hr:OwnS w0.heap.size W B d st)=>bF B d st s W hr.row (by omega))
 rw[hwi] at CW
 have OC:=hid (aX OW.out HC.out.2 (by decide) (by decide))
 rw[hl]
 rw[hl] at CW
 clear hlg hT hm hs hwi hh ho P hc0
 go_enter Tryz.func73,Tryz.ntmps73
 go_wp2_with fail
 refine(CW.out _ OC.out).mono ?_;rintro e w1 ⟨rfl,rfl⟩
 go_wp2_with fail
 go_end0
 exact⟨rfl,v,HF.out.1,HC.out.2.trans HF.out.2⟩
 --]
def ApU (p:Pl.Plan) (A:Option Addr) (c:Nat) (A':Option Addr) (c':Nat) (b:Int) (g:Nat) (w0 w5:World) (h:Cr.HSt) (w':World):Prop:=∃ v',HuntAt p A c A' c' b g w0 w' v' h/\pD w5 w'
theorem uI (hI:PlanIn w0 p A A') (k:Nat)
 (IH:∀ (s f:Int) (st:List Wk.Stp) (B:Option Addr) (d:Nat) (v:Value) (h:Cr.HSt) (wr:World),HuntAt p A c A' c' b g w0 wr v h->OwnS w0.heap.size wr B d st->(st=[]->B=none/\d=0)->st.length+k=16->h.tries+2 ^ (k+1)<=1000000->h.out.length+2 ^ k<=1000000 ->
  Calls Tryz.prog 73 #[.pointer (some ⟨g,0,none⟩),.int .i64 s,.int .i64 f,.slice B st.length d] wr (fH p A c A' c' b g w0 (Cr.enter p b k s f st h) wr))
 (s f:Int) (st:List Wk.Stp) (B:Option Addr) (d:Nat) (hh:HuntAt p A c A' c' b g w0 wr v h) (ho:OwnS w0.heap.size wr B d st) (hnil:st=[]->B=none/\d=0) (hl:st.length+(k+1)=16) (ht:h.tries+2 ^ (k+2)<=1000000) (hw:h.out.length+2 ^ (k+1)<=1000000) (hT:Cr.turns b s st h=false) :
 Calls Tryz.prog 73 #[.pointer (some ⟨g,0,none⟩),.int .i64 s,.int .i64 f,.slice B st.length d] wr (fH p A c A' c' b g w0 ((Wk.outs p s f).foldl (Cr.gone p (Cr.enter p b k) s st) (Cr.came h)) wr):=by
 obtain⟨hlg,hm,P,hs,hwi⟩:=xV hT
 obtain⟨⟨p0,p1,p2,p3,p4,p5,p6,p7,p8,p9⟩,⟨f7,f8,f9⟩,gg⟩:=row10 hh.2.2.1
 have q1:IntKind.i64.wrap ((h.tries:Int)+1)=(h.tries:Int)+1:=IntWalk.i64_in _ (by omega)
 have hc0:=hh.came
 rw[P] at hc0
 have HC:=hid hc0
 have OW:=hid ho
 rw[hlg] at p8
 have D:decide (400<(h.tries:Int)+1)=false:=aB (by omega)
 have E:(s == b)=false:=by rw[ArU];exact hs
 have D16:((st.length:Int) == 16)=false:=by rw[ArU];omega
 have CW:=hid (λW (hr:OwnS w0.heap.size W B d st)=>bF B d st s W hr.row (by omega))
 rw[hwi] at CW
 have OC:=hid (aX OW.out HC.out.2 (by decide) (by decide))
 have CO:=hid (λW (hb:Below w0.heap.size w0 W)=>jE p A c A' c' s f W (hI.below hb))
 have HIH:=hid IH
 have HI:=hid hI
 have HNS:=hid (show st.length=0->Value.slice B st.length d=.slice none 0 0 from λh0=>by obtain⟨rfl,rfl⟩:=hnil (AsR h0);rw[h0])
 obtain⟨i0,hi,hz0,hz1,hz2⟩:=info_parts xU
 have hlo:=Wk.outs_len p s f
 have HT2:=hid ht
 have HW2:=hid hw
 have hct:(Cr.came h).tries=h.tries+1:=rfl
 have HCT:=hid hct
 have HCO:=hid (show (Cr.came h).out=h.out from rfl)
 have HL:=hid hl
 have hst:st.length<=15:=by omega
 clear hlg hT hm hs hwi hh ho P hc0 IH hI hnil ht hw hct hl
 generalize Wk.outs p s f=L at CO hlo ⊢
 generalize Cr.came h=h1 at HC HCT HCO ⊢
 go_enter Tryz.func73,Tryz.ntmps73
 go_wp2_with fail
 refine(CW.out _ OC.out).mono ?_;rintro e w1 ⟨rfl,rfl⟩
 go_wp2_with fail
 refine(CO.out _ HC.out.1.1).mono ?_;rintro e w5 ⟨Al,dl,rfl,hol,hb5⟩
 have H5:=hid (HC.out.1.below hb5)
 have T5:=hid (HC.out.2.trans (Below.tame hb5 _ _))
 have OL:=hid (show OwnS w0.heap.size w5 Al dl L from fC hol HC.out.1.1.size)
 have OS:=hid (aA OC.out hb5)
 clear hol hb5 p0 p1 p2 p3 p4 p5 p6 p7 p8 p9 f7 f8 f9 gg D E D16 q1 CO CW HC OC OW
 go_wp2_with fail
 go_loopw [9] (λi w'=>∃ n:Nat,n<=L.length/\i=.int .i64 n/\ApU p A c A' c' b g w0 w5 ((L.take n).foldl (Cr.gone p (Cr.enter p b k) s st) h1) w') (λi _=>L.length-(intOf i).toNat)
 case atStart=>exact⟨0,AsD _,rfl,v,H5.out,Tame.refl _ _ _⟩
 case round =>
  obtain⟨n,hn,rfl,v',hH,hTm⟩:=hrel
  have HH:=hid hH
  have HTm:=hid hTm
  clear hH hTm
  by_cases hlt:n<L.length
  ·have hfl : (L.take (n+1)).foldl (Cr.gone p (Cr.enter p b k) s st) h1=Cr.gone p (Cr.enter p b k) s st ((L.take n).foldl (Cr.gone p (Cr.enter p b k) s st) h1) L[n]:=by
    rw[List.take_add_one,ArN hlt,List.foldl_append];rfl
   have OLr:=aX OL.out HTm.out (by decide) (by decide)
   have OSr:=hid (aX OS.out HTm.out (by decide) (by decide))
   obtain⟨bl,ol,rfl,hbl,on⟩:=(OwnS.row OLr).at hlt
   obtain⟨a0,a1,a2⟩:=bL on
   rw[show n*aE.m=n*3 from rfl] at a0 a1 a2
   have hbn:=Cr.fold_le p (Cr.enter p b k) s st (2 ^ (k+1)-1) (2 ^ k) Nat.one_le_two_pow (λs f st h=>Cr.enter_le p b k s f st h) (L.take n) h1
   have HB:=hid (show ((L.take n).foldl (Cr.gone p (Cr.enter p b k) s st) h1).tries+2 ^ (k+1)<=1000000/\((L.take n).foldl (Cr.gone p (Cr.enter p b k) s st) h1).out.length+2 ^ k<=1000000 from by
    have x1:=HT2.out
    have x2:=HW2.out
    rw[HCT.out,HCO.out] at hbn
    rw[Nat.pow_succ 2 (k+1)] at x1
    rw[Nat.pow_succ 2 k] at x2
    have ht1:(L.take n).length<=1:=by rw[AsU];omega
    have y1:=Nat.mul_le_mul_right (2 ^ (k+1)-1) ht1
    have y2:=Nat.mul_le_mul_right (2 ^ k) ht1
    have y3:1<=2 ^ (k+1):=Nat.one_le_two_pow
    omega)
   have HFL:=hid hfl
   clear hbn
   generalize (L.take n).foldl (Cr.gone p (Cr.enter p b k) s st) h1=hf at HH HFL HB
   generalize L[n]=x at a0 a1 a2 HFL
   have hws:=HH.out.1.size
   clear OLr hfl on
   go_upto_region 9 with fail
   go_cut [10] from 66 to 130 (λs10 w'=>w'.ownsRow wr.heap.size 129 3 s10 (st.length+1) (aE.all (st++[x]))/\Below wr.heap.size wr w')
   case first =>
    --[
    go_region_law (first
     | (refine aM (by rfl) (.tmp 72) (.tmp 73) 86 (by rfl) wr.heap.size 129 i0 _ 3 24 Tryz.underlying86 hi hz0 hz1 hz2 rfl (by decide) (.slice (some ⟨wr.heap.size,0,none⟩) 0 0) 0 [] (by rfl) ((dY wr rfl (ArR _)).drew) w0.heap.size (.slice B st.length d) st.length (aE.all st) (by rfl) ((OSr.out.alloc _).drew) (aE.all_single st) (by unfold maxLen;omega) (by omega) (by first|omega|simp<;>omega) (λh0=>HNS.out h0) ?_
        intro v1 w3 hown1 hg1
        have hb3:Below wr.heap.size wr w3:=Below.grown (((AtB wr).alloc (by first|omega|simp<;>omega) _).drew) hg1 (by first|omega|simp<;>omega) (λk hk=>by cases hk;first|omega|simp<;>omega)
        have e0:=(hb3.cell (p:=⟨bl,ol+n*3,none⟩) hbl).trans a0
        have e1:=(hb3.cell (p:=⟨bl,ol+n*3+1,none⟩) hbl).trans a1
        have e2:=(hb3.cell (p:=⟨bl,ol+n*3+2,none⟩) hbl).trans a2
        have hgl3:=hb3.size)
     | (refine aM (by rfl) (.tmp 72) (.tmp 73) 86 (by rfl) wr.heap.size 129 i0 _ 3 24 Tryz.underlying86 hi hz0 hz1 hz2 rfl (by decide) (.slice (some ⟨wr.heap.size,0,none⟩) 0 0) 0 [] (by rfl) (((dY wr rfl (ArR _)).alloc _).drew) w0.heap.size (.slice B st.length d) st.length (aE.all st) (by rfl) (((OSr.out.alloc _).alloc _).drew) (aE.all_single st) (by unfold maxLen;omega) (by omega) (by first|omega|simp<;>omega) (λh0=>HNS.out h0) ?_
        intro v1 w3 hown1 hg1
        have hb3:Below wr.heap.size wr w3:=Below.grown ((((AtB wr).alloc (by first|omega|simp<;>omega) _).alloc (by first|omega|simp<;>omega) _).drew) hg1 (by first|omega|simp<;>omega) (λk hk=>by cases hk;first|omega|simp<;>omega)
        have e0:=(hb3.cell (p:=⟨bl,ol+n*3,none⟩) hbl).trans a0
        have e1:=(hb3.cell (p:=⟨bl,ol+n*3+1,none⟩) hbl).trans a1
        have e2:=(hb3.cell (p:=⟨bl,ol+n*3+2,none⟩) hbl).trans a2
        have hgl3:=hb3.size
        have hx3:OwnS wr.heap.size w3 (some ⟨wr.heap.size+1,0,none⟩) 1 [x]:=aL (World.ownsRow.drew (cT (wr.alloc (.cells #[] 129)) x (g:=wr.heap.size+1) (base:=wr.heap.size) (by simp))) (λk hk=>by cases hk;exact hg1.block _ (by first|omega|simp<;>omega) (λh=>by simp[Value.ownBlock] at h)))
     | (refine aM (by rfl) (.tmp 72) (.tmp 73) 86 (by rfl) wr.heap.size 129 i0 _ 3 24 Tryz.underlying86 hi hz0 hz1 hz2 rfl (by decide) (.slice (some ⟨wr.heap.size+1,0,none⟩) 0 0) 0 [] (by rfl) ((dY (wr.alloc (.cells #[.int .i64 x.s,.int .i64 x.f,.int .i64 x.t] 129)) (by simp) (by simp)).drew) w0.heap.size (.slice B st.length d) st.length (aE.all st) (by rfl) (((OSr.out.alloc _).alloc _).drew) (aE.all_single st) (by unfold maxLen;omega) (by omega) (by first|omega|simp<;>omega) (λh0=>HNS.out h0) ?_
        intro v1 w3 hown1 hg1
        have hb3:Below wr.heap.size wr w3:=Below.grown ((((AtB wr).alloc (by first|omega|simp<;>omega) _).alloc (by first|omega|simp<;>omega) _).drew) hg1 (by first|omega|simp<;>omega) (λk hk=>by cases hk;first|omega|simp<;>omega)
        have e0:=(hb3.cell (p:=⟨bl,ol+n*3,none⟩) hbl).trans a0
        have e1:=(hb3.cell (p:=⟨bl,ol+n*3+1,none⟩) hbl).trans a1
        have e2:=(hb3.cell (p:=⟨bl,ol+n*3+2,none⟩) hbl).trans a2
        have hgl3:=hb3.size
        have hx3:OwnS wr.heap.size w3 (some ⟨wr.heap.size,0,none⟩) 1 [x]:=aL (World.ownsRow.drew (World.ownsRow.alloc (cT wr x (g:=wr.heap.size) (base:=wr.heap.size) rfl (ArR _)) _)) (λk hk=>by cases hk;exact hg1.block _ (by first|omega|simp<;>omega) (λh=>by simp[Value.ownBlock] at h)))
     | (refine aM (by rfl) (.tmp 74) (.tmp 79) 86 (by rfl) wr.heap.size 129 i0 _ 3 24 Tryz.underlying86 hi hz0 hz1 hz2 rfl (by decide) v1 (0+st.length) ([]++aE.all st) (by rfl) (by first|exact hown1|exact hown1.alloc _) wr.heap.size (.slice (some ⟨w3.heap.size,0,none⟩) 1 1) 1 (aE.all [x]) (by rfl) (cT w3 x rfl hgl3) (aE.all_single [x]) (by unfold maxLen;omega) (by omega) (by first|omega|simp<;>omega) (λh0=>by cases h0) ?_
        intro v2 w4 hown2 hg2
        have hb4:Below wr.heap.size wr w4:=Below.grown (hb3.alloc hb3.size _) hg2 (by first|omega|simp<;>omega) (λk hk=>(hown1.lt k hk).1))
     | (refine aM (by rfl) (.tmp 74) (.tmp 79) 86 (by rfl) wr.heap.size 129 i0 _ 3 24 Tryz.underlying86 hi hz0 hz1 hz2 rfl (by decide) v1 (0+st.length) ([]++aE.all st) (by rfl) (by first|exact hown1|exact hown1.alloc _) wr.heap.size (.slice (some ⟨wr.heap.size+1,0,none⟩) 1 1) 1 (aE.all [x]) (by rfl) (hx3) (aE.all_single [x]) (by unfold maxLen;omega) (by omega) (by first|omega|simp<;>omega) (λh0=>by cases h0) ?_
        intro v2 w4 hown2 hg2
        have hb4:Below wr.heap.size wr w4:=Below.grown (hb3) hg2 (by first|omega|simp<;>omega) (λk hk=>(hown1.lt k hk).1))
     | (refine aM (by rfl) (.tmp 74) (.tmp 79) 86 (by rfl) wr.heap.size 129 i0 _ 3 24 Tryz.underlying86 hi hz0 hz1 hz2 rfl (by decide) v1 (0+st.length) ([]++aE.all st) (by rfl) (by first|exact hown1|exact hown1.alloc _) wr.heap.size (.slice (some ⟨wr.heap.size,0,none⟩) 1 1) 1 (aE.all [x]) (by rfl) (hx3) (aE.all_single [x]) (by unfold maxLen;omega) (by omega) (by first|omega|simp<;>omega) (λh0=>by cases h0) ?_
        intro v2 w4 hown2 hg2
        have hb4:Below wr.heap.size wr w4:=Below.grown (hb3) hg2 (by first|omega|simp<;>omega) (λk hk=>(hown1.lt k hk).1)))
    all_goals go_wp2_with fail
    all_goals go_meet
    all_goals (refine⟨?_,hb4⟩;rw[aE.all_append];rw[Nat.zero_add,List.nil_append] at hown2;exact hown2)
    --]
   case rest =>
    obtain⟨hq,hbq⟩:=hcut
    obtain⟨-,Bq,dq,rfl,-,-⟩:=Lies.Row.of_own (E:=aE) (n:=st.length+1) (L:=st++[x]) hq
    have HQ:=hid (show OwnS w0.heap.size wc Bq dq (st++[x]) from by unfold OwnS;rw[ArV];exact fC hq hws)
    have HHq:=hid (HH.out.below hbq)
    have HTq:=hid (HTm.out.trans (Below.tame hbq _ _))
    have OLq:=hid (aX OL.out HTq.out (by decide) (by decide))
    have e0:=(hbq.cell (p:=⟨bl,ol+n*3,none⟩) hbl).trans a0
    have e1:=(hbq.cell (p:=⟨bl,ol+n*3+1,none⟩) hbl).trans a1
    have e2:=(hbq.cell (p:=⟨bl,ol+n*3+2,none⟩) hbl).trans a2
    have hblq:bl<wc.heap.size:=AsE hbl hbq.size
    obtain⟨⟨p0,p1,p2,p3,p4,p5,-,-,-,-⟩,-,gg⟩:=row10 HHq.out.2.2.1
    have CS:=hid (λW (hb:Below wc.heap.size wc W)=>jY p A c A' c' s x.t W (HI.out.below (HHq.out.1.trans (hb.mono HHq.out.1.size))))
    clear hq hbq a0 a1 a2 hbl
    generalize hsg:Wk.signal p s x.t=sg at CS
    have HSG:=hid hsg
    clear hsg
    generalize wc=w7 at HQ HHq HTq OLq e0 e1 e2 hblq p0 p1 p2 p3 p4 p5 gg CS ⊢
    have B7:=hid (AtB w7)
    go_upto_region 10 with fail
    go_cut [11] from 66 to 130 (λs11 w'=>s11=.int .i64 sg/\Below w7.heap.size w7 w')
    case first =>
     --[
     have KS:=hid (λW (hb:Below w7.heap.size w7 W)=>show (W.cell? ⟨g,0,none⟩=some (.int .i64 p.ov)/\W.cell? ⟨g,1,none⟩=some (.int .i64 p.ap)/\W.cell? ⟨g,2,none⟩=some (.int .i64 p.se)/\W.cell? ⟨g,3,none⟩=some (.int .i64 p.ho)/\W.cell? ⟨g,4,none⟩=some (.slice A p.secs.length c)/\W.cell? ⟨g,5,none⟩=some (.slice A' p.sigs.length c'))/\W.cell? ⟨bl,ol+n*3,none⟩=some (.int .i64 x.s)/\W.cell? ⟨bl,ol+n*3+1,none⟩=some (.int .i64 x.f)/\W.cell? ⟨bl,ol+n*3+2,none⟩=some (.int .i64 x.t) from⟨⟨(hb.cell (p:=⟨g,0,none⟩) gg).trans p0,(hb.cell (p:=⟨g,1,none⟩) gg).trans p1,(hb.cell (p:=⟨g,2,none⟩) gg).trans p2,(hb.cell (p:=⟨g,3,none⟩) gg).trans p3,(hb.cell (p:=⟨g,4,none⟩) gg).trans p4,(hb.cell (p:=⟨g,5,none⟩) gg).trans p5⟩,(hb.cell (p:=⟨bl,ol+n*3,none⟩) hblq).trans e0,(hb.cell (p:=⟨bl,ol+n*3+1,none⟩) hblq).trans e1,(hb.cell (p:=⟨bl,ol+n*3+2,none⟩) hblq).trans e2⟩)
     have CM:=hid (λW (hb:Below w7.heap.size w7 W)=>Made.of (w:=w7) hb (CS.out W hb))
     go_region_held3 (λW=>(W.cell? ⟨g,0,none⟩=some (.int .i64 p.ov)/\W.cell? ⟨g,1,none⟩=some (.int .i64 p.ap)/\W.cell? ⟨g,2,none⟩=some (.int .i64 p.se)/\W.cell? ⟨g,3,none⟩=some (.int .i64 p.ho)/\W.cell? ⟨g,4,none⟩=some (.slice A p.secs.length c)/\W.cell? ⟨g,5,none⟩=some (.slice A' p.sigs.length c'))/\W.cell? ⟨bl,ol+n*3,none⟩=some (.int .i64 x.s)/\W.cell? ⟨bl,ol+n*3+1,none⟩=some (.int .i64 x.f)/\W.cell? ⟨bl,ol+n*3+2,none⟩=some (.int .i64 x.t))
      (first|with_reducible exact KS.out _ B7.out.drew|with_reducible exact KS.out _ hacc)
      (first|(go_at_call 118;(with_reducible refine(CM.out _ B7.out.drew).mono ?_);rintro e w' ⟨rfl,hbl,hacc,hz⟩))
     all_goals go_wp2_with fail
     all_goals go_meet
     all_goals exact⟨rfl,hacc⟩
     --]
    case rest =>
     obtain⟨rfl,hb8⟩:=hcut
     have HQ8:=hid (aA HQ.out hb8)
     have HH8:=hid (HHq.out.below hb8)
     have HT8:=hid (HTq.out.trans (Below.tame hb8 _ _))
     have f0:=(hb8.cell (p:=⟨bl,ol+n*3,none⟩) hblq).trans e0
     have f1:=(hb8.cell (p:=⟨bl,ol+n*3+1,none⟩) hblq).trans e1
     have f2:=(hb8.cell (p:=⟨bl,ol+n*3+2,none⟩) hblq).trans e2
     have hbl8:bl<wc.heap.size:=AsE hblq hb8.size
     obtain⟨⟨r0,r1,r2,r3,r4,r5,-,-,-,-⟩,-,gg8⟩:=row10 HH8.out.2.2.1
     have CN:=hid (λW (hb:Below wc.heap.size wc W)=>dB p A c A' c' s x.t W (HI.out.below (HH8.out.1.trans (hb.mono HH8.out.1.size))))
     clear hb8 e0 e1 e2 hblq p0 p1 p2 p3 p4 p5 gg CS HQ HHq HTq OLq B7
     generalize hnx:Wk.next p s x.t=nx at CN
     have HNX:=hid hnx
     obtain⟨n1,n2,n3⟩:=nx
     clear hnx
     generalize wc=w8 at HQ8 HH8 HT8 f0 f1 f2 hbl8 r0 r1 r2 r3 r4 r5 gg8 CN ⊢
     have B8:=hid (AtB w8)
     go_upto_region 11 with fail
     go_cut [12,13,14] from 66 to 130 (λs12 s13 s14 w'=>(s12=.int .i64 n1/\s13=.int .i64 n2/\s14=.bool n3)/\Below w8.heap.size w8 w')
     case first =>
      --[
      have KS:=hid (λW (hb:Below w8.heap.size w8 W)=>show (W.cell? ⟨g,0,none⟩=some (.int .i64 p.ov)/\W.cell? ⟨g,1,none⟩=some (.int .i64 p.ap)/\W.cell? ⟨g,2,none⟩=some (.int .i64 p.se)/\W.cell? ⟨g,3,none⟩=some (.int .i64 p.ho)/\W.cell? ⟨g,4,none⟩=some (.slice A p.secs.length c)/\W.cell? ⟨g,5,none⟩=some (.slice A' p.sigs.length c'))/\W.cell? ⟨bl,ol+n*3,none⟩=some (.int .i64 x.s)/\W.cell? ⟨bl,ol+n*3+1,none⟩=some (.int .i64 x.f)/\W.cell? ⟨bl,ol+n*3+2,none⟩=some (.int .i64 x.t) from⟨⟨(hb.cell (p:=⟨g,0,none⟩) gg8).trans r0,(hb.cell (p:=⟨g,1,none⟩) gg8).trans r1,(hb.cell (p:=⟨g,2,none⟩) gg8).trans r2,(hb.cell (p:=⟨g,3,none⟩) gg8).trans r3,(hb.cell (p:=⟨g,4,none⟩) gg8).trans r4,(hb.cell (p:=⟨g,5,none⟩) gg8).trans r5⟩,(hb.cell (p:=⟨bl,ol+n*3,none⟩) hbl8).trans f0,(hb.cell (p:=⟨bl,ol+n*3+1,none⟩) hbl8).trans f1,(hb.cell (p:=⟨bl,ol+n*3+2,none⟩) hbl8).trans f2⟩)
      have CM:=hid (λW (hb:Below w8.heap.size w8 W)=>Made.of (w:=w8) hb (CN.out W hb))
      go_region_held3 (λW=>(W.cell? ⟨g,0,none⟩=some (.int .i64 p.ov)/\W.cell? ⟨g,1,none⟩=some (.int .i64 p.ap)/\W.cell? ⟨g,2,none⟩=some (.int .i64 p.se)/\W.cell? ⟨g,3,none⟩=some (.int .i64 p.ho)/\W.cell? ⟨g,4,none⟩=some (.slice A p.secs.length c)/\W.cell? ⟨g,5,none⟩=some (.slice A' p.sigs.length c'))/\W.cell? ⟨bl,ol+n*3,none⟩=some (.int .i64 x.s)/\W.cell? ⟨bl,ol+n*3+1,none⟩=some (.int .i64 x.f)/\W.cell? ⟨bl,ol+n*3+2,none⟩=some (.int .i64 x.t))
       (first|with_reducible exact KS.out _ B8.out.drew|with_reducible exact KS.out _ hacc)
       (first|(go_at_call 72;(with_reducible refine(CM.out _ B8.out.drew).mono ?_);rintro e w' ⟨rfl,hbl,hacc,hz⟩))
      all_goals go_wp2_with fail
      all_goals go_meet
      all_goals exact⟨⟨rfl,rfl,rfl⟩,hacc⟩
      --]
     case rest =>
      obtain⟨⟨rfl,rfl,rfl⟩,hb9⟩:=hcut
      have HQ9:=hid (aA HQ8.out hb9)
      have HH9:=hid (HH8.out.below hb9)
      have HT9:=hid (HT8.out.trans (Below.tame hb9 _ _))
      clear hb9 f0 f1 f2 hbl8 r0 r1 r2 r3 r4 r5 gg8 CN HQ8 HH8 HT8 B8
      generalize wc=w9 at HQ9 HH9 HT9 ⊢
      have hlx:(st++[x]).length=st.length+1:=by rw[ArV];rfl
      have HLX:=hid hlx
      clear hlx
      --[
      cases hls:Cr.lasts p s x with
      | true =>
        have HG:=hid (show Cr.gone p (Cr.enter p b k) s st hf x=⟨hf.tries,hf.long,hf.out++[⟨st++[x],sg⟩]⟩ from by unfold Cr.gone;rw[hls,ArZ rfl,HSG.out])
        have hway:0<=sg∨n3=false:=by
         have:=Cr.lasts_true hls
         rwa [HSG.out,HNX.out] at this
        obtain⟨i1,ki,kz0,kz1,kz2⟩:=info_parts AnZ
        obtain⟨hB,hg0,h3,M,h4,h5,h6⟩:=HH9.out
        obtain⟨⟨r0,r1,r2,r3,r4,r5,r6,r7,r8,r9⟩,⟨-,-,f9⟩,gg9⟩:=row10 h3
        have hML:M.length<=1000000:=by
         have:=congrArg List.length h4
         rw[AsH] at this
         exact ArS (ArS (Nat.le_of_eq this) (Nat.le_add_right _ _)) HB.out.2
        have H5:=hid (World.ownsRow.alloc h5 (.cells #[.slice Bq (st.length+1) dq,.int .i64 sg] 88))
        have WA:=hid (λv4 w10 hown hgr=>AhA (w4:=w10) (v4:=v4) (o:=.cells #[.slice Bq (st.length+1) dq,.int .i64 sg] 88) hB hg0 h3 h4 h5 h6 (m:=⟨Bq,dq,⟨st++[x],sg⟩⟩) HQ9.out hown hgr)
        have NW:=hid (AnY w9 Bq dq (st.length+1) sg HLX.out)
        have hw9:=hB.size
        clear h4 h5 h6 h3 hB hg0 hls
        rcases (show 0<=sg∨(¬ 0<=sg/\n3=false) by by_cases h0:0<=sg;exact .inl h0;exact .inr ⟨h0,hway.resolve_left h0⟩) with h0|⟨h0,rfl⟩
        all_goals clear hway
        ·have D:decide (0<=sg)=true:=aC h0
         clear h0
         go_wp2_with (at_builtin;refine aG dD _ rfl (.tmp 123) (.tmp 127) 83 rfl w0.heap.size 88 i1 _ 32 Tryz.underlying83 ki kz0 kz1 kz2 rfl _ _ _ rfl H5.out (some ⟨w9.heap.size,0,none⟩) 1 1 [⟨Bq,dq,⟨st++[x],sg⟩⟩] rfl (by decide) rfl NW.out (by omega) (by omega) (by simp;omega) ?_;intro g1 cap1 w10 hown1 hg1 hgb1;have WX:=hid (WA.out _ _ hown1 hg1);obtain⟨⟨t0,t1,t2,t3,t4,t5,t6,t7,t8,t9⟩,⟨-,-,u9⟩,gg10⟩:=row10 WX.out.1)
         go_roundw
         case rel=>exact⟨n+1,by omega,by go_num,by rw[HFL.out,HG.out];exact⟨_,WX.out.2.1,HT9.out.trans WX.out.2.2⟩⟩
         case measure=>simp[intOf];omega
        have D:decide (0<=sg)=false:=aB h0
        clear h0
        go_wp2_with (at_builtin;refine aG dD _ rfl (.tmp 123) (.tmp 127) 83 rfl w0.heap.size 88 i1 _ 32 Tryz.underlying83 ki kz0 kz1 kz2 rfl _ _ _ rfl H5.out (some ⟨w9.heap.size,0,none⟩) 1 1 [⟨Bq,dq,⟨st++[x],sg⟩⟩] rfl (by decide) rfl NW.out (by omega) (by omega) (by simp;omega) ?_;intro g1 cap1 w10 hown1 hg1 hgb1;have WX:=hid (WA.out _ _ hown1 hg1);obtain⟨⟨t0,t1,t2,t3,t4,t5,t6,t7,t8,t9⟩,⟨-,-,u9⟩,gg10⟩:=row10 WX.out.1)
        go_roundw
        case rel=>exact⟨n+1,by omega,by go_num,by rw[HFL.out,HG.out];exact⟨_,WX.out.2.1,HT9.out.trans WX.out.2.2⟩⟩
        case measure=>simp[intOf];omega
      | false =>
        obtain⟨h0,h1'⟩:=Cr.lasts_false hls
        rw[HSG.out] at h0
        rw[HNX.out] at h1'
        have D:decide (0<=sg)=false:=aB (by omega)
        obtain rfl:n3=true:=h1'
        have HG:=hid (show Cr.gone p (Cr.enter p b k) s st hf x=Cr.enter p b k n1 n2 (st++[x]) hf from by unfold Cr.gone;rw[hls,ArY (by decide),HNX.out])
        have ih:=HIH.out n1 n2 (st++[x]) Bq dq v' hf w9 HH9.out HQ9.out (λh=>by simp at h) (by have:=HL.out;have:=HLX.out;omega) HB.out.1 HB.out.2
        rw[HLX.out] at ih
        have CI:=hid ih
        clear ih hls h0
        go_wp2_with fail
        refine CI.out.mono ?_;rintro e w10 ⟨rfl,v2,hH2,hT2⟩
        have H10:=hid hH2
        have T10:=hid hT2
        clear hH2 hT2
        go_wp2
        go_roundw
        case rel=>exact⟨n+1,by omega,by go_num,by rw[HFL.out,HG.out];exact⟨v2,H10.out,HT9.out.trans T10.out⟩⟩
        case measure=>simp[intOf];omega
      --]
  obtain rfl:n=L.length:=by omega
  have HH2:=hid (show HuntAt p A c A' c' b g w0 wr v' (L.foldl (Cr.gone p (Cr.enter p b k) s st) h1) from by have:=HH.out;rwa [List.take_length] at this)
  go_wp2_with fail
  go_end0
  exact⟨rfl,v',HH2.out,T5.out.trans HTm.out⟩
end
open Go.RowKit
theorem mD {p:Pl.Plan} {A:Option Addr} {c:Nat} {A':Option Addr} {c':Nat} {b:Int} {g:Nat} {w0:World} (hI:PlanIn w0 p A A'):∀ (k:Nat) (s f:Int) (st:List Wk.Stp) (B:Option Addr) (d:Nat) (v:Value) (h:Cr.HSt) (wr:World),HuntAt p A c A' c' b g w0 wr v h->OwnS w0.heap.size wr B d st->(st=[]->B=none/\d=0)->st.length+k=16->h.tries+2 ^ (k+1)<=1000000->h.out.length+2 ^ k<=1000000 ->
 Calls Tryz.prog 73 #[.pointer (some ⟨g,0,none⟩),.int .i64 s,.int .i64 f,.slice B st.length d] wr (fH p A c A' c' b g w0 (Cr.enter p b k s f st h) wr)
 | 0, s,f,st,B,d,v,h,wr,hh,ho,hn,hl,ht,hw=>by
   cases hT:Cr.turns b s st h with
   | true =>
     rw[pF 0 hT]
     exact kC s f st B d hh ho (by omega) (by omega) hT
   | false =>
     rw[AbP hT]
     exact uH s f st B d hh ho (by omega) (by omega) hT
 | k + 1,s,f,st,B,d,v,h,wr,hh,ho,hn,hl,ht,hw=>by
   cases hT:Cr.turns b s st h with
   | true =>
     rw[pF (k+1) hT]
     exact kC s f st B d hh ho (by omega) (ArS (Nat.le_add_right _ _) ht) hT
   | false =>
     rw[AbQ k hT]
     exact uI hI k (λs f st B d v h wr=>mD hI k s f st B d v h wr) s f st B d hh ho hn hl ht hw hT
def TRow {α:Type} (t:TypeId) (E:Lies α) (w:World) (A:Option Addr) (L:List α):Prop:=L=[]∨∃ (b o:Nat) (cs:Array Value) (fr:Nat × Nat),A=some ⟨b,o,none⟩/\w.heap[b]?=some (.cells cs t fr)/\∀ k y,L[k]?=some y->E.On w b (o+k*E.m) y
section
variable {α : Type} {t : TypeId} {E : Lies α} {w : World} {A : Option Addr} {L : List α}
theorem TRow.row (h:TRow t E w A L):E.Row w A L:=by
 rcases h with rfl|⟨b,o,cs,fr,hA,hb,h⟩
 ·exact .inl rfl
 exact .inr ⟨b,o,hA,(ArL hb).1,h⟩
theorem TRow.below {w':World} (h:TRow t E w A L) (hb:Below w.heap.size w w'):TRow t E w' A L:=by
 rcases h with rfl|⟨b,o,cs,fr,hA,hg,h⟩
 ·exact .inl rfl
 have hlt:=(ArL hg).1
 exact .inr ⟨b,o,cs,fr,hA,(hb.block _ hlt).trans hg,λk y hk=>(h k y hk).below hlt hb⟩
theorem TRow.set (h:TRow t E w A L) {g i:Nat} {cs:Array Value} {t':TypeId} {fr:Nat × Nat} {v:Value} (hg:w.heap[g]?=some (.cells cs t' fr)) (ht:t≠t'):TRow t E (w.setCell ⟨g,i,none⟩ v) A L:=by
 rcases h with rfl|⟨b,o,cs',fr',hA,hb,h⟩
 ·exact .inl rfl
 have hne:b≠g:=λe=>by
  subst e
  rw[hb] at hg
  cases hg
  exact ht rfl
 have hh:(w.setCell ⟨g,i,none⟩ v).heap[b]?=w.heap[b]?:=AsX _ _ _ _ hne
 exact .inr ⟨b,o,cs',fr',hA,hh.trans hb,λk y hk j u hu=>(World.cell?_of_block (a:=⟨b,_,none⟩) hh).trans (h k y hk j u hu)⟩
theorem TRow.drew (h:TRow t E w A L):TRow t E w.drew A L:=h
theorem TRow.of_own {base n:Nat} {v:Value} (h:w.ownsRow base t E.m v n (E.all L)):n=L.length/\∃ A c,v=.slice A n c/\L.length<=c/\TRow t E w A L:=by
 obtain⟨h1,A,c,hv,hc,hR⟩:=Lies.Row.of_own h
 refine⟨h1,A,c,hv,by rw[<-h1];exact hc,?_⟩
 rcases h.2 with ⟨h2,h3⟩|⟨g,cap,cur,h2,-,hg,-⟩
 ·exact .inl (AsR (by omega))
 rw[hv] at h2
 cases h2
 rcases hR with rfl|⟨b,o,hA,-,hon⟩
 ·exact .inl rfl
 cases hA
 exact .inr ⟨g,0,cur,(0,0),rfl,hg,hon⟩
end
def WaysT (w:World) (A:Option Addr) (L:List Cr.Way):Prop:=∃ M:List WayM,M.map WayM.way=L/\TRow 88 dD w A M/\∀ m∈M,TRow 129 aE w m.A m.way.steps/\m.way.steps.length<=m.c
theorem WaysT.nil (w:World) (A:Option Addr):WaysT w A []:=⟨[],rfl,.inl rfl,λ_ h=>(by cases h)⟩
theorem WaysT.ways {w:World} {A:Option Addr} {L:List Cr.Way} (h:WaysT w A L):WaysIn w A L:=by
 obtain⟨M,h1,h2,h3⟩:=h
 exact⟨M,h1,h2.row,λm hm=>⟨(h3 m hm).1.row,(h3 m hm).2⟩⟩
theorem WaysT.below {w w':World} {A:Option Addr} {L:List Cr.Way} (h:WaysT w A L) (hb:Below w.heap.size w w'):WaysT w' A L:=by
 obtain⟨M,h1,h2,h3⟩:=h
 exact⟨M,h1,h2.below hb,λm hm=>⟨(h3 m hm).1.below hb,(h3 m hm).2⟩⟩
theorem WaysT.set {w:World} {A:Option Addr} {L:List Cr.Way} (h:WaysT w A L) {g i:Nat} {cs:Array Value} {t':TypeId} {fr:Nat × Nat} {v:Value} (hg:w.heap[g]?=some (.cells cs t' fr)) (h1:88≠t') (h2:129≠t'):WaysT (w.setCell ⟨g,i,none⟩ v) A L:=by
 obtain⟨M,e1,e2,e3⟩:=h
 exact⟨M,e1,e2.set hg h1,λm hm=>⟨(e3 m hm).1.set hg h2,(e3 m hm).2⟩⟩
theorem WaysT.at {w:World} {A:Option Addr} {L:List Cr.Way} (h:WaysT w A L) {k:Nat} {y:Cr.Way} (hk:L[k]?=some y):∃ b o S d,A=some ⟨b,o,none⟩/\b<w.heap.size/\w.cell? ⟨b,o+k*2,none⟩=some (.slice S y.steps.length d)/\w.cell? ⟨b,o+k*2+1,none⟩=some (.int .i64 y.exit)/\TRow 129 aE w S y.steps/\y.steps.length<=d:=by
 obtain⟨M,rfl,h2,h3⟩:=h
 rw[List.getElem?_map] at hk
 cases hm:M[k]? with
 | none=>rw[hm] at hk;cases hk
 | some m =>
   rw[hm] at hk
   obtain rfl:m.way=y:=AsO hk
   obtain⟨hlt,hmk⟩:=ArM hm
   obtain⟨b,o,hA,hb,on⟩:=h2.row.at hlt
   rw[hmk] at on
   obtain⟨c0,c1⟩:=AlB on
   exact⟨b,o,m.A,m.c,hA,hb,c0,c1,h3 m (ArX hm)⟩
def fI (x:List Cr.Way × Int) (w:World) (e:Ending) (w':World):Prop:=∃ A c,e=.returned (.tuple #[.slice A x.1.length c,.int .i64 x.2])/\WaysT w' A x.1/\Below w.heap.size w w'
theorem HuntAt.ways {p:Pl.Plan} {A:Option Addr} {c:Nat} {A':Option Addr} {c':Nat} {b:Int} {g:Nat} {w0 wr:World} {v:Value} {h:Cr.HSt} (hh:HuntAt p A c A' c' b g w0 wr v h):∃ B d,v=.slice B h.out.length d/\WaysT wr B h.out:=by
 obtain⟨-,-,-,M,h4,h5,h6⟩:=hh
 obtain⟨-,B,d,rfl,-,hR⟩:=TRow.of_own h5
 have hl:M.length=h.out.length:=by rw[<-h4,AsH]
 exact⟨B,d,by rw[hl],M,h4,hR,λm hm=>by
  obtain⟨-,B',d',hv,hc,hS⟩:=TRow.of_own (E:=aE) (h6 m hm)
  cases hv
  exact⟨hS,hc⟩⟩
theorem AbR (w:World) (a b c:Obj):(((w.alloc a).alloc b).alloc c).heap[w.heap.size]?=some a/\(((w.alloc a).alloc b).alloc c).heap[w.heap.size+1]?=some b/\(((w.alloc a).alloc b).alloc c).heap[w.heap.size+2]?=some c/\Below w.heap.size w (((w.alloc a).alloc b).alloc c):=by
 have s1:(w.alloc a).heap.size=w.heap.size+1:=by simp
 have s2:((w.alloc a).alloc b).heap.size=w.heap.size+2:=by simp
 refine⟨?_,?_,?_,(((Below.refl _ _).alloc (ArR _) _).alloc (by omega) _).alloc (by omega) _⟩
 ·rw[heap_alloc_old _ _ (by omega),heap_alloc_old _ _ (by omega)];exact AsW _ _
 ·rw[heap_alloc_old _ _ (by omega),<-s1];exact AsW _ _
 rw[<-s2];exact AsW _ _
abbrev AoA (g:Pl.Sig):Obj:=.cells #[.string (txt g.name),.int .i64 g.sec,.int .i64 g.en] 58
theorem ApV (p:Pl.Plan) (A:Option Addr) (c:Nat) (A':Option Addr) (c':Nat) (i:Int) (w:World) (h:PlanIn w p A A') :
 Calls Tryz.prog 35 #[aR p A c A' c',.int .i64 i] w (fI (Cr.of p i) w):=by
 --[
 have R0:=AsW w (aD p A c A' c')
 have XX:=(AtB w).alloc (ArR _) (aD p A c A' c')
 have X0:=hid XX
 obtain⟨⟨p0,p1,p2,p3,p4,p5⟩,-,gp⟩:=row6 R0
 have HI:=hid (h.below XX)
 clear R0 XX h
 rcases Cr.sigAt_ways p i with ⟨hs,hn⟩|⟨k,rfl,⟨hk,hn⟩|⟨x,hx,hn⟩⟩
 ·have D:decide (i<0)=true:=aC hs
  rw[Cr.of_none hn]
  clear hs hn
  go_enter Tryz.func35,Tryz.ntmps35
  go_wp2_with fail
  refine bodyPost_ret ?_ rfl ⟨none,0,rfl,WaysT.nil _ _,X0.out⟩
  simp[results,Tryz.results35,go_sem]
 ·have D0:decide ((k:Int)<0)=false:=aB (by omega)
  have D1:decide ((p.sigs.length:Int)<=(k:Int))=true:=aC (by omega)
  rw[Cr.of_none hn]
  clear hn
  go_enter Tryz.func35,Tryz.ntmps35
  go_wp2_with fail
  refine bodyPost_ret ?_ rfl ⟨none,0,rfl,WaysT.nil _ _,X0.out⟩
  simp[results,Tryz.results35,go_sem]
 ·have hlt:k<p.sigs.length:=(ArM hx).1
  have D0:decide ((k:Int)<0)=false:=aB (by omega)
  have D1:decide ((p.sigs.length:Int)<=(k:Int))=false:=aB (by omega)
  have N1:¬ p.sigs.length<=k:=by omega
  rw[Cr.of_some hn]
  obtain⟨b,o,rfl,hb,on⟩:=HI.out.2.at hlt
  rw[(ArM hx).2] at on
  obtain⟨a0,a1,a2⟩:=cF on
  rw[show k*bD.m=k*3 from rfl] at a0 a1 a2
  clear hn on hx
  obtain⟨xn,xs,xe⟩:=x
  simp only at a0 a1 a2
  obtain⟨q0,q1,q2,q3⟩:=AbR w (aD p A c (some ⟨b,o,none⟩) c') (AoA ⟨xn,xs,xe⟩) (kB p A c (some ⟨b,o,none⟩) c' xs Cr.hunt0 (.slice none 0 0))
  have XS:=(AtB w).alloc (ArR _) (aD p A c (some ⟨b,o,none⟩) c')
  have X2:=XS.alloc XS.size (AoA ⟨xn,xs,xe⟩)
  have HI2:=hid (HI.out.below ((Below.refl _ _).alloc (ArR _) (AoA ⟨xn,xs,xe⟩)))
  have HX2:=hid X2
  generalize hw2:(w.alloc (aD p A c (some ⟨b,o,none⟩) c')).alloc (AoA ⟨xn,xs,xe⟩)=w2 at HI2 HX2 q0 q1 q2 q3
  have hz2:w2.heap.size=w.heap.size+2:=by rw[<-hw2];simp
  have HZ2:=hid hz2
  have X3:=(AtB w2).alloc (ArR _) (kB p A c (some ⟨b,o,none⟩) c' xs Cr.hunt0 (.slice none 0 0))
  have HH0:=hid (show HuntAt p A c (some ⟨b,o,none⟩) c' xs (w.heap.size+2) w2 (w2.alloc (kB p A c (some ⟨b,o,none⟩) c' xs Cr.hunt0 (.slice none 0 0))) (.slice none 0 0) Cr.hunt0 from⟨X3,by omega,q2,[],rfl,World.ownsRow_nil _ _ _ _,λm hm=>(by cases hm)⟩)
  obtain⟨⟨k0,k1,k2⟩,-,gk⟩:=row3 q1
  obtain⟨⟨t0,t1,t2,t3,t4,t5⟩,-,gt⟩:=row6 q0
  have CN:=hid (λW (hb:Below w2.heap.size w2 W)=>dB p A c (some ⟨b,o,none⟩) c' xs xe W (HI2.out.below hb))
  have CE:=hid (λW (hH:HuntAt p A c (some ⟨b,o,none⟩) c' xs (w.heap.size+2) w2 W (.slice none 0 0) Cr.hunt0)=>mD HI2.out 16 (Wk.next p xs xe).1 (Wk.next p xs xe).2.1 [] none 0 _ Cr.hunt0 W hH (World.ownsRow_nil _ _ _ _) (λ_=>⟨rfl,rfl⟩) rfl (by decide) (by decide))
  have HXX:=hid X3
  subst hw2
  clear XS X2 X3 q0 q1 q2 q3 hz2
  generalize hnx:Wk.next p xs xe=nx at CN CE
  have HNX:=hid hnx
  obtain⟨n1,n2,n3⟩:=nx
  clear hnx
  cases n3 with
  | false =>
    have P:=hid (show Cr.ofSig p ⟨xn,xs,xe⟩=([],0) from by
     have:Cr.hunt p ⟨xn,xs,xe⟩=Cr.hunt0:=by unfold Cr.hunt;simp only;rw[HNX.out];rfl
     unfold Cr.ofSig
     rw[this];rfl)
    go_enter Tryz.func35,Tryz.ntmps35
    go_wp2_with fail
    refine(CN.out _ HXX.out).mono ?_;rintro e w5 ⟨rfl,hb5⟩
    have H5:=hid (HH0.out.below hb5)
    obtain⟨⟨r0,r1,r2,r3,r4,r5,r6,r7,r8,r9⟩,-,gg⟩:=row10 H5.out.2.2.1
    clear p0 p1 p2 p3 p4 p5 gp k0 k1 k2 gk t0 t1 t2 t3 t4 t5 gt hb5
    go_wp2_with fail
    refine bodyPost_ret (v:=.tuple #[.slice none 0 0,.int .i64 0]) ?_ rfl ?_
    ·simp[results,Tryz.results35,go_sem]
    rw[P.out]
    exact⟨none,0,rfl,WaysT.nil _ _,HX2.out.trans (H5.out.1.mono HX2.out.size)⟩
  | true =>
    have P:=hid (show Cr.hunt p ⟨xn,xs,xe⟩=Cr.enter p xs 16 n1 n2 [] Cr.hunt0 from by unfold Cr.hunt;simp only;rw[HNX.out];rfl)
    have HO:=hid (show Cr.ofSig p ⟨xn,xs,xe⟩=if (Cr.enter p xs 16 n1 n2 [] Cr.hunt0).long then([],10) else((Cr.enter p xs 16 n1 n2 [] Cr.hunt0).out,0) from by unfold Cr.ofSig;rw[P.out])
    rw[HO.out]
    generalize Cr.enter p xs 16 n1 n2 [] Cr.hunt0=hf at CE
    obtain⟨tr,lg,out⟩:=hf
    cases lg with
    | true =>
      show Calls Tryz.prog 35 _ w (fI ([],10) w)
      go_enter Tryz.func35,Tryz.ntmps35
      go_wp2_with fail
      refine(CN.out _ HXX.out).mono ?_;rintro e w5 ⟨rfl,hb5⟩
      have H5:=hid (HH0.out.below hb5)
      clear p0 p1 p2 p3 p4 p5 gp k0 k1 k2 gk t0 t1 t2 t3 t4 t5 gt hb5
      go_wp2_with fail
      refine(CE.out _ H5.out).mono ?_;rintro e w6 ⟨rfl,v,hH6,-⟩
      obtain⟨B,d,rfl,hW⟩:=hH6.ways
      have HW:=hid hW
      have HB6:=hid (HX2.out.trans (hH6.1.mono HX2.out.size))
      obtain⟨⟨r0,r1,r2,r3,r4,r5,r6,r7,r8,r9⟩,-,gg⟩:=row10 hH6.2.2.1
      clear hH6 hW
      go_wp2_with fail
      refine bodyPost_ret (v:=.tuple #[.slice none 0 0,.int .i64 10]) ?_ rfl ⟨none,0,rfl,WaysT.nil _ _,HB6.out⟩
      simp[results,Tryz.results35,go_sem]
    | false =>
      show Calls Tryz.prog 35 _ w (fI (out,0) w)
      go_enter Tryz.func35,Tryz.ntmps35
      go_wp2_with fail
      refine(CN.out _ HXX.out).mono ?_;rintro e w5 ⟨rfl,hb5⟩
      have H5:=hid (HH0.out.below hb5)
      clear p0 p1 p2 p3 p4 p5 gp k0 k1 k2 gk t0 t1 t2 t3 t4 t5 gt hb5
      go_wp2_with fail
      refine(CE.out _ H5.out).mono ?_;rintro e w6 ⟨rfl,v,hH6,-⟩
      obtain⟨B,d,rfl,hW⟩:=hH6.ways
      have HW:=hid hW
      have HB6:=hid (HX2.out.trans (hH6.1.mono HX2.out.size))
      obtain⟨⟨r0,r1,r2,r3,r4,r5,r6,r7,r8,r9⟩,-,gg⟩:=row10 hH6.2.2.1
      clear hH6 hW
      go_wp2_with fail
      refine bodyPost_ret (v:=.tuple #[.slice B out.length d,.int .i64 0]) ?_ rfl ⟨B,d,rfl,HW.out,HB6.out⟩
      simp[results,Tryz.results35,go_sem]
 --]
end Go.Proofs.YtjofpclmbjpgjaaGreat
