/- Lemmas. -/
import Derived.Test.YtjofpclmbjpgjaaGreatMk17
set_option maxHeartbeats 16000000
set_option maxRecDepth 100000
namespace Go.Proofs.YtjofpclmbjpgjaaGreat
open Lib (hid)
open Go.RowKit
namespace Fl
abbrev saw (g:G) (q:Int):G:={ g with seen:=g.seen++[q] }
section
variable {p : Pl.Plan} {own : List Wk.Stp} {k : Nat} {s e q f : Int} {ok : Bool} {g : G} (hn : Wk.next p s e = (q, f, ok)) (hE : ends_ p own s e g = false)
include hn hE
theorem fV (hx:0<=Wk.signal p q f):on p own (k+1) s e g={ saw g q with fl:=put g.fl (Wk.signal p q f) }:=by
 unfold on
 rw[ArY (by rw[hE];decide),hn]
 simp only
 rw[ArZ hx]
theorem AlK (hx:¬ 0<=Wk.signal p q f) (hp:Wk.isPoint p q=false):on p own (k+1) s e g=on p own k q (1-f) (saw g q):=by
 conv=>lhs;unfold on
 rw[ArY (by rw[hE];decide),hn]
 simp only
 rw[ArY hx,ArZ hp]
theorem AlL (hx:¬ 0<=Wk.signal p q f) (hp:Wk.isPoint p q=true) (hf:f=0):on p own (k+1) s e g=on p own k q 2 (on p own k q 1 (saw g q)):=by
 conv=>lhs;unfold on
 rw[ArY (by rw[hE];decide),hn]
 simp only
 rw[ArY hx,ArY (by rw[hp];decide),ArZ hf]
theorem AoH (hx:¬ 0<=Wk.signal p q f) (hp:Wk.isPoint p q=true) (hf:f≠0) (hd:Dm.posOf g.pts q=f):on p own (k+1) s e g=on p own k q 0 (saw g q):=by
 conv=>lhs;unfold on
 rw[ArY (by rw[hE];decide),hn]
 simp only
 rw[ArY hx,ArY (by rw[hp];decide),ArY hf,ArZ hd]
theorem ApY (hx:¬ 0<=Wk.signal p q f) (hp:Wk.isPoint p q=true) (hf:f≠0) (hd:Dm.posOf g.pts q≠f) (h0:Dm.posOf g.pts q=0):on p own (k+1) s e g={ saw g q with pts:=Dm.put g.pts ⟨q,3-f⟩ }:=by
 unfold on
 rw[ArY (by rw[hE];decide),hn]
 simp only
 rw[ArY hx,ArY (by rw[hp];decide),ArY hf,ArY hd,ArZ h0]
theorem AqW (hx:¬ 0<=Wk.signal p q f) (hp:Wk.isPoint p q=true) (hf:f≠0) (hd:Dm.posOf g.pts q≠f) (h0:Dm.posOf g.pts q≠0):on p own (k+1) s e g=saw g q:=by
 unfold on
 rw[ArY (by rw[hE];decide),hn]
 simp only
 rw[ArY hx,ArY (by rw[hp];decide),ArY hf,ArY hd,ArY h0]
end
end Fl
section
variable {p : Pl.Plan} (hf : Pl.Fit p) {A : Option Addr} {c : Nat} {A' : Option Addr} {c' : Nat} {B : Option Addr} {d : Nat} {own : List Wk.Stp} {G : Nat} {w0 : World} (hI : PlanIn w0 p A A') (hL : aE.Row w0 B own) (hl : own.length <= 500)
include hf hI hL hl
theorem AlM:∀ (k:Nat) (s e:Int) (g:Fl.G) (wr:World) (V:GrdV),GrdAt p A c A' c' B d own.length G w0 wr V g->9<=g.seen.length+k->g.seen.length<=8->g.pts.length+8<=900+g.seen.length->g.fl.length+8<=900+g.seen.length ->
 Calls Tryz.prog 122 #[.pointer (some ⟨G,0,none⟩),.int .i64 s,.int .i64 e] wr (AlJ p A c A' c' B d own.length G w0 (Fl.on p own k s e g)):=by
 intro k
 induction k with
 | zero=>intro s e g wr V h h9 h8;omega
 | succ k ih =>
   rintro s e g wr ⟨B1,d1,B2,d2,v⟩ h h9 h8 h1 h2
   obtain⟨-,B3,d3,hv,hd3,hR3⟩:=Lies.Row.of_own (E:=aF) h.seen
   have hv':v=.slice B3 g.seen.length d3:=hv
   subst hv'
   clear hv hd3 hR3
   have IH:=hid ih
   have HI:=hid hI
   have HL:=hid hL
   have HF:=hid hf
   have H0:=hid h
   obtain⟨⟨p0,p1,p2,p3,p4,p5,p6,p7,p8,p9⟩,⟨f7,f8,f9⟩,gg⟩:=row10f h.at_
   have CN:=hid (dB p A c A' c' s e wr (hI.below h.below))
   have CW:=hid (λW (hb:Below w0.heap.size w0 W) (q:Int)=>bF B d own q W (hL.below rfl hb) (by omega))
   generalize hnx:Wk.next p s e=nx at CN
   have HNX:=hid hnx
   obtain⟨q,f,ok⟩:=nx
   clear hnx ih hI hL hf h
   go_enter Tryz.func122,Tryz.ntmps122
   go_wp2_with fail
   refine CN.out.mono ?_;rintro e' w1 ⟨rfl,hb1⟩
   have H1:=hid (H0.out.next hb1)
   clear p0 p1 p2 p3 p4 p5 p6 p7 p8 p9 f7 f8 f9 gg H0 CN hb1
   obtain⟨⟨p0,p1,p2,p3,p4,p5,p6,p7,p8,p9⟩,⟨f7,f8,f9⟩,gg⟩:=row10f H1.out.at_
   have HR3:=hid (Lies.Row.of_own (E:=aF) H1.out.seen)
   have CH:=hid (λq=>AhH B3 d3 g.seen q w1 (by obtain⟨-,X,y,e,-,hR⟩:=Lies.Row.of_own (E:=aF) H1.out.seen;cases e;exact hR) (by omega))
   have hs8:g.seen.length<9:=by omega
   by_cases hE:Fl.ends_ p own s e g=true
   ·have E : Fl.on p own (k+1) s e g=g:=by
     unfold Fl.on
     rw[ArZ hE]
    have E':=hid E
    unfold Fl.ends_ at hE
    rw[HNX.out] at hE
    clear E
    cases ok with
    | false =>
      go_wp2_with fail
      go_end0
      exact⟨rfl,_,by rw[E'.out];exact H1.out⟩
    | true =>
      cases hw:Wk.within own q with
      | true =>
        have CW1:=hid (CW.out w1 H1.out.below q)
        rw[hw] at CW1
        clear hE hw
        go_wp2_with fail
        refine CW1.out.mono ?_;rintro e' w2 ⟨rfl,rfl⟩
        go_wp2_with fail
        go_end0
        exact⟨rfl,_,by rw[E'.out];exact H1.out⟩
      | false =>
        have CW1:=hid (CW.out w1 H1.out.below q)
        rw[hw] at CW1 hE
        have CH1:=hid (CH.out q)
        cases ha:g.seen.any (λy=>decide (y=q)) with
        | true =>
          rw[ha] at CH1
          clear hE hw ha
          go_wp2_with fail
          refine CW1.out.mono ?_;rintro e' w2 ⟨rfl,rfl⟩
          go_wp2_with fail
          refine CH1.out.mono ?_;rintro e' w2 ⟨rfl,rfl⟩
          go_wp2_with fail
          go_end0
          exact⟨rfl,_,by rw[E'.out];exact H1.out⟩
        | false =>
          rw[ha] at CH1 hE
          have D8:((g.seen.length:Int) == 8)=true:=by
           rw[beq_iff_eq]
           have:=of_decide_eq_true (by simpa using hE:decide (g.seen.length=8)=true)
           omega
          clear hE hw ha
          go_wp2_with fail
          refine CW1.out.mono ?_;rintro e' w2 ⟨rfl,rfl⟩
          go_wp2_with fail
          refine CH1.out.mono ?_;rintro e' w2 ⟨rfl,rfl⟩
          go_wp2_with fail
          go_end0
          exact⟨rfl,_,by rw[E'.out];exact H1.out⟩
   have hE':Fl.ends_ p own s e g=false:=Bool.eq_false_iff.2 hE
   have h88:=Fl.ends_len hE'
   have NE:=hid hE'
   unfold Fl.ends_ at hE'
   rw[HNX.out] at hE'
   simp only[Bool.or_eq_false_iff,Bool.not_eq_false'] at hE'
   obtain⟨rfl,hw,ha,-⟩:=hE'
   have CW1:=hid (CW.out w1 H1.out.below q)
   rw[hw] at CW1
   have CH1:=hid (CH.out q)
   rw[ha] at CH1
   have D8:((g.seen.length:Int) == 8)=false:=by rw[ArU];omega
   obtain⟨⟨hq0,hq1⟩,hf0,hf2⟩:=Fl.next_fit HF.out HNX.out
   clear hE hw ha
   go_wp2_with fail
   refine CW1.out.mono ?_;rintro e' w2 ⟨rfl,rfl⟩
   go_wp2_with fail
   refine CH1.out.mono ?_;rintro e' w2 ⟨rfl,rfl⟩
   obtain⟨i0',hi,hz0,hz1,hz2⟩:=info_parts fT
   have O1:=hid (H1.out.seen.alloc (.cells #[.int .i64 q] 3))
   have R1:=hid (show aF.Row (w1.alloc (.cells #[.int .i64 q] 3)) (some ⟨w1.heap.size,0,none⟩) [q] from Lies.Row.fresh (E:=aF) w1 [q] 3)
   have XB:=hid ((AtB w1).alloc (ArR _) (.cells #[.int .i64 q] 3))
   have A1:=hid ((heap_alloc_old w1 (.cells #[.int .i64 q] 3) gg).trans H1.out.at_)
   clear CH
   go_upto_region 3 with (
    at_builtin
    refine aG aF _ rfl (.tmp 52) (.tmp 54) 90 rfl (G+1) 3 i0' _ 8 Tryz.underlying90 hi hz0 hz1 hz2 rfl (.slice B3 g.seen.length d3) g.seen.length (aF.all g.seen) rfl O1.out (some ⟨w1.heap.size,0,none⟩) 1 1 [q] rfl (by decide) rfl R1.out (by omega) (by omega) (by simp;omega) ?_
    intro g1 cap1 w4 hown hg1 hgr
    have HO:=hid hown
    have HG:=hid hg1
    have HGR:=hid hgr
    have A4:=hid ((hg1.block G (by simp;omega) (λe=>absurd (O1.out.lt G e.symm).1 (by omega))).trans A1.out)
    clear hown hg1 hgr
    clear p0 p1 p2 p3 p4 p5 p6 p7 p8 p9 f7 f8 f9 gg
    obtain⟨⟨-,-,-,-,-,-,-,-,-,p9⟩,⟨-,-,f9⟩,gg⟩:=row10f A4.out)
   have H3:=hid (show GrdAt p A c A' c' B d own.length G w0 (w4.setCell ⟨G,9,none⟩ (.slice (some ⟨g1,0,none⟩) (g.seen.length+1) cap1)) ⟨B1,d1,B2,d2,.slice (some ⟨g1,0,none⟩) (g.seen.length+1) cap1⟩ (Fl.saw g q) from H1.out.see XB.out HO.out HG.out (λk hk=>by
    cases hk
    rcases HGR.out with h|h
    ·exact .inl h
    exact .inr (by rw[h];simp)))
   clear A4 A1 XB R1 O1 HO HG HGR p9 f9 gg hi hz0 hz1 hz2 HR3 CW1 CH1 D8
   have hs1:(g.seen++[q]).length=g.seen.length+1:=by rw[ArV];rfl
   generalize w4.setCell ⟨G,9,none⟩ (.slice (some ⟨g1,0,none⟩) (g.seen.length+1) cap1)=w5 at H3 ⊢
   generalize hg5:Fl.saw g q=g5
   have HG5:=hid hg5
   rw[hg5] at H3
   have hp5:g5.pts=g.pts:=by rw[<-hg5]
   have hf5:g5.fl=g.fl:=by rw[<-hg5]
   have hs5:g5.seen.length=g.seen.length+1:=by rw[<-hg5];exact hs1
   have l5:g5.pts.length=g.pts.length:=by rw[hp5]
   have m5:g5.fl.length=g.fl.length:=by rw[hf5]
   have HP5:=hid hp5
   have HF5:=hid hf5
   clear hg5 hp5 hf5 hs1
   obtain⟨⟨p0,p1,p2,p3,p4,p5,-,-,-,-⟩,-,gg⟩:=row10f H3.out.at_
   have CS:=hid (jY p A c A' c' q f w5 (HI.out.below H3.out.below))
   generalize hsg:Wk.signal p q f=x at CS
   have HSG:=hid hsg
   clear hsg
   go_wp2_with fail
   refine CS.out.mono ?_;rintro e' w6 ⟨rfl,hb6⟩
   have H6:=hid (H3.out.next hb6)
   clear p0 p1 p2 p3 p4 p5 gg CS hb6 H3
   obtain⟨⟨p0,p1,p2,p3,p4,p5,-,p7,-,-⟩,-,gg⟩:=row10f H6.out.at_
   have CP:=hid (eM B1 d1 g5.pts q w6 H6.out.pts (by omega))
   rw[HP5.out] at CP
   generalize hps:Dm.posOf g.pts q=z at CP
   have HPS:=hid hps
   clear hps
   go_wp2_with fail
   refine CP.out.mono ?_;rintro e' w7 ⟨rfl,hb7⟩
   have H7:=hid (H6.out.next hb7)
   clear p0 p1 p2 p3 p4 p5 p7 gg CP hb7 H6
   obtain⟨⟨p0,p1,p2,p3,p4,p5,-,p7,p8,-⟩,⟨f7,f8,-⟩,gg⟩:=row10f H7.out.at_
   have IH1:=hid (λ(e:Int)=>IH.out q e g5 w7 _ H7.out (by omega) (by omega) (by omega) (by omega))
   by_cases hx:0<=x
   ·have D1:decide (0<=x)=true:=aC hx
    have E:=hid (Fl.fV (k:=k) HNX.out NE.out (by rw[HSG.out];exact hx))
    have CF:=hid (AhI B2 d2 g5.fl x w7 H7.out.fl (by omega) H7.out.l2)
    rw[HF5.out] at CF
    clear hx
    go_wp2_with fail
    refine CF.out.mono ?_;rintro e' w8 ⟨B',d',rfl,hR,hd,hb8,hnew⟩
    have H8:=hid (H7.out.setFl hb8 hR hd (hnew.imp (λh=>⟨h.1,h.2.trans HF5.out.symm⟩) id) (λhz=>hR.lt hz))
    clear p0 p1 p2 p3 p4 p5 p7 p8 f7 f8 gg
    obtain⟨⟨-,-,-,-,-,-,-,-,p8,-⟩,⟨-,f8,-⟩,gg⟩:=row10f (H7.out.next hb8).at_
    go_wp2_with fail
    go_end0
    have e5:=HG5.out
    subst e5
    rw[E.out,HSG.out]
    exact⟨rfl,_,H8.out⟩
   have D1:decide (0<=x)=false:=aB hx
   have hx':¬ 0<=Wk.signal p q f:=by rw[HSG.out];exact hx
   have HX:=hid hx'
   obtain⟨j,rfl⟩:∃ j:Nat,q=(j:Int):=⟨q.toNat,by omega⟩
   have hjl:j<p.secs.length:=by omega
   have hpt:Wk.isPoint p (j:Int)=(p.secs[j]).pt:=by
    unfold Wk.isPoint
    rw[Wk.secAt_some (ArN hjl)];rfl
   have HPT:=hid hpt
   obtain⟨b1,o1,rfl,gb,on⟩:=bQ (HI.out.below H7.out.below).1 (ArN hjl)
   have onp:=(bE on).2.1
   have i0:(0:Int)<=(j:Int):=ArT j
   have i1:(j:Int)<(p.secs.length:Int):=by omega
   clear hx hx' on hpt
   cases hpv:(p.secs[j]).pt with
   | false =>
     rw[hpv] at onp
     have E:=hid (Fl.AlK (k:=k) HNX.out NE.out HX.out (by rw[HPT.out];exact hpv))
     have q1:IntKind.i64.wrap (1-f)=1-f:=IntWalk.i64_in _ (by omega)
     clear hpv
     go_wp2_with fail
     refine(IH1.out (1-f)).mono ?_;rintro e' w8 ⟨rfl,V8,h8⟩
     have H8:=hid h8
     clear h8
     go_wp2_with fail
     go_end0
     exact⟨rfl,V8,by rw[E.out,HG5.out];exact H8.out⟩
   | true =>
     rw[hpv] at onp
     have HPV:=hid (show Wk.isPoint p (j:Int)=true by rw[HPT.out];exact hpv)
     clear hpv
     by_cases h0:f=0
     ·have E:=hid (Fl.AlL (k:=k) HNX.out NE.out HX.out HPV.out h0)
      have D2:(f == 0)=true:=by rw[beq_iff_eq];exact h0
      clear h0
      go_wp2_with fail
      refine(IH1.out 1).mono ?_;rintro e' w8 ⟨rfl,V8,h8⟩
      have H8:=hid h8
      have ha:=Fl.on_adds p own k (j:Int) 1 g5
      obtain⟨a1,a2,a3,a4⟩:=ha
      have IH2:=hid (IH.out (j:Int) 2 _ w8 V8 H8.out (by omega) (a2 (by omega)) (by omega) (by omega))
      clear h8
      go_wp2_with fail
      refine IH2.out.mono ?_;rintro e' w9 ⟨rfl,V9,h9⟩
      have H9:=hid h9
      clear h9
      go_wp2_with fail
      go_end0
      exact⟨rfl,V9,by rw[E.out,HG5.out];exact H9.out⟩
     have D2:(f == 0)=false:=by rw[ArU];exact h0
     have HF0:=hid h0
     by_cases hz:z=f
     ·have E:=hid (Fl.AoH (k:=k) HNX.out NE.out HX.out HPV.out h0 (by rw[HPS.out];exact hz))
      have D3:(z == f)=true:=by rw[beq_iff_eq];exact hz
      clear h0 hz
      go_wp2_with fail
      refine(IH1.out 0).mono ?_;rintro e' w8 ⟨rfl,V8,h8⟩
      have H8:=hid h8
      clear h8
      go_wp2_with fail
      go_end0
      exact⟨rfl,V8,by rw[E.out,HG5.out];exact H8.out⟩
     have D3:(z == f)=false:=by rw[ArU];exact hz
     by_cases hz0:z=0
     ·have E:=hid (Fl.ApY (k:=k) HNX.out NE.out HX.out HPV.out h0 (by rw[HPS.out];exact hz) (by rw[HPS.out];exact hz0))
      have D4:(z == 0)=true:=by rw[beq_iff_eq];exact hz0
      have q1:IntKind.i64.wrap (3-f)=3-f:=IntWalk.i64_in _ (by omega)
      have CF:=hid (xY B1 d1 g5.pts ⟨(j:Int),3-f⟩ w7 H7.out.pts (by omega) H7.out.l1)
      rw[HP5.out] at CF
      clear h0 hz hz0
      go_wp2_with fail
      refine CF.out.mono ?_;rintro e' w8 ⟨B',d',rfl,hR,hd,hb8,hnew⟩
      have H8:=hid (H7.out.setPts hb8 hR hd (hnew.imp (λh=>⟨h.1,h.2.trans HP5.out.symm⟩) id) (λhz=>hR.lt hz))
      clear p0 p1 p2 p3 p4 p5 p7 p8 f7 f8 gg onp
      obtain⟨⟨-,-,-,-,-,-,-,p7,-,-⟩,⟨f7,-,-⟩,gg⟩:=row10f (H7.out.next hb8).at_
      go_wp2_with fail
      go_end0
      have e5:=HG5.out
      subst e5
      rw[E.out]
      exact⟨rfl,_,H8.out⟩
     have E:=hid (Fl.AqW (k:=k) HNX.out NE.out HX.out HPV.out h0 (by rw[HPS.out];exact hz) (by rw[HPS.out];exact hz0))
     have D4:(z == 0)=false:=by rw[ArU];exact hz0
     clear h0 hz hz0
     go_wp2_with fail
     go_end0
     exact⟨rfl,_,by rw[E.out,HG5.out];exact H7.out⟩
end
open Go.RowKit
theorem AlN (p:Pl.Plan) (hf:Pl.Fit p) (A:Option Addr) (c:Nat) (A':Option Addr) (c':Nat) (S T:List Wk.Stp) (B1 B2:Option Addr) (d1 d2:Nat) (w:World) (h:PlanIn w p A A') (hS:aE.Row w B1 S) (hT:aE.Row w B2 T) (hl:S.length+T.length<=90) (hpos:∀ y∈S++T,Wk.position p y<=2) :
 Calls Tryz.prog 75 #[aR p A c A' c',.slice B1 S.length d1,.slice B2 T.length d2] w (uP (Fl.of p (S++T)) w):=by
 --[
 have XA:=(AtB w).alloc (ArR _) (aD p A c A' c')
 have X0:=hid XA
 have RP:=hid (AsW w (aD p A c A' c'))
 have gp:=(ArL RP.out).1
 have HI:=hid (h.below XA)
 have HS:=hid (hS.below rfl XA)
 have HT:=hid (hT.below rfl XA)
 have hll:(S++T).length=S.length+T.length:=ArV
 have HLL:=hid hll
 clear XA h hS hT hll
 obtain⟨i0',hi,hz0,hz1,hz2⟩:=info_parts AlI
 go_enter Tryz.func75,Tryz.ntmps75
 go_upto_region 1 with fail
 generalize w.alloc (aD p A c A' c')=w1 at X0 RP gp HI HS HT ⊢
 generalize w.heap.size=gq at RP gp ⊢
 have XE:=hid ((AtB w1).alloc (ArR _) (.cells #[] 129))
 have OE:=hid (uO w1 rfl (ArR _))
 go_upto_region 2 with (first
  | (at_builtin
     refine aZ aE rfl (.tmp 12) (.tmp 13) 86 rfl w1.heap.size 129 i0' _ 24 Tryz.underlying86 hi hz0 hz1 hz2 rfl (.slice (some ⟨w1.heap.size,0,none⟩) 0 0) 0 [] rfl OE.out B1 S.length d1 S rfl rfl (HS.out.below rfl XE.out) (by omega) (by omega) (by simp) ?_
     intro v2 w2 hown2 hg2
     have O2:=hid hown2
     have B2':=hid (Below.grown XE.out hg2 (by simp) (λk hk=>by cases hk;exact ArR _))
     clear hown2 hg2)
  | (at_builtin
     refine aZ aE rfl (.tmp 14) (.tmp 15) 86 rfl w1.heap.size 129 i0' _ 24 Tryz.underlying86 hi hz0 hz1 hz2 rfl v2 (0+S.length) ([]++aE.all S) rfl O2.out B2 T.length d2 T rfl rfl (HT.out.below rfl B2'.out) (by omega) (by omega) B2'.out.size ?_
     intro v3 w3 hown3 hg3
     have O3:=hid hown3
     have B3':=hid (Below.grown B2'.out hg3 B2'.out.size (λk hk=>(O2.out.lt k hk).1))
     clear hown3 hg3))
 have O4:=O3.out
 rw[List.nil_append,<-aE.all_append,show 0+S.length+T.length=(S++T).length by rw[HLL.out];omega] at O4
 obtain⟨-,A3,c3,rfl,hc3,hR3⟩:=Lies.Row.of_own (E:=aE) O4
 have ho:(S++T).length<=90:=by rw[HLL.out];exact hl
 have XB:=hid (X0.out.trans (B3'.out.mono X0.out.size))
 have HI3:=hid (HI.out.below B3'.out)
 have RP3:=hid ((B3'.out.block _ gp).trans RP.out)
 clear O4 O3 B3' O2 B2' XE OE HS HT HI X0 RP gp HLL hl hi hz0 hz1 hz2
 generalize how:S++T=own at hR3 ho hpos ⊢
 have HOW:=hid how
 clear how
 have HPO:=hid hpos
 clear hpos
 have HR3:=hid hR3
 have KS:=hid (λW (hW:Below w3.heap.size w3 W)=>(row6 ((hW.block _ (ArL RP3.out).1).trans RP3.out)).1)
 have R0:=hid (AtB w3)
 have CP:=hid (λW (hW:Below w3.heap.size w3 W)=>show Calls Tryz.prog 120 #[aR p A c A' c',.slice A3 own.length c3] W (λe w'=>∃ Bp dp,e=.returned (.slice Bp (Dm.ofSteps p own).length dp)/\aJ.Row w' Bp (Dm.ofSteps p own)/\(Dm.ofSteps p own).length<=dp/\Below w3.heap.size w3 w'/\∀ a,Bp=some a->w3.heap.size<=a.block) from
  (AlG p A c A' c' own A3 c3 W (HI3.out.below hW) (HR3.out.below rfl hW) (by omega)).mono λe w' ⟨Bp,dp,x1,x2,x3,x4,x5⟩=>⟨Bp,dp,x1,x2,x3,hW.trans (x4.mono hW.size),λa ha=>ArS hW.size (x5 a ha)⟩)
 obtain⟨p0,p1,p2,p3,p4,p5⟩:=KS.out _ R0.out
 clear hR3 p0 p1 p2 p3 p4 p5
 go_region_held3 (λW'=>(W'.cell? ⟨gq,0,none⟩=some (.int .i64 p.ov)/\W'.cell? ⟨gq,1,none⟩=some (.int .i64 p.ap)/\W'.cell? ⟨gq,2,none⟩=some (.int .i64 p.se)/\W'.cell? ⟨gq,3,none⟩=some (.int .i64 p.ho)/\W'.cell? ⟨gq,4,none⟩=some (.slice A p.secs.length c)/\W'.cell? ⟨gq,5,none⟩=some (.slice A' p.sigs.length c')))
  (first|with_reducible exact KS.out _ R0.out.drew|with_reducible exact KS.out _ h5|with_reducible exact KS.out _ (h5.alloc h5.size _)|(go_keep;done))
  (first
   | (go_at_call 120;(with_reducible refine(CP.out _ R0.out.drew).mono ?_);rintro e5 w5 ⟨Bp,dp,rfl,hRp,hdp,h5,hnp⟩))
 have hpl:Dm.ofSteps p own≠[]->∀ a,Bp=some a->a.block<w5.heap.size:=λhz a ha=>by
  rcases hRp with h|⟨b,o,hA,hlt,-⟩
  ·exact absurd h hz
  rw[hA] at ha;cases ha;exact hlt
 have H0:=hid (show GrdAt p A c A' c' A3 c3 own.length w5.heap.size w3 (w5.alloc (ApX p A c A' c' A3 c3 own.length (.slice Bp (Dm.ofSteps p own).length dp) (.slice none 0 0) (.slice none 0 0))) ⟨Bp,dp,none,0,.slice none 0 0⟩ (Fl.upTo p own 0) from
  ⟨h5.alloc h5.size _,h5.size,AsW _ _,hRp.below rfl ((Below.refl _ _).alloc (ArR _) _),.inl rfl,hdp,ArR _,World.ownsRow_nil _ _ _ _,(λhz a ha=>⟨by have:=hpl hz a ha;omega,(λe=>by cases e),by have:=hpl hz a ha;simp;omega,hnp a ha⟩),(λhz=>absurd rfl hz)⟩)
 clear hpl hRp hdp hnp h5 CP
 generalize w5.alloc (ApX p A c A' c' A3 c3 own.length (.slice Bp (Dm.ofSteps p own).length dp) (.slice none 0 0) (.slice none 0 0))=w6 at H0 ⊢
 generalize w5.heap.size=G at H0 ⊢
 go_wp2_with fail
 go_loopw [10,11] (λv10 _ w'=>∃ (k:Nat) (V:GrdV),k<=own.length/\v10=.int .i64 k/\GrdAt p A c A' c' A3 c3 own.length G w3 w' V (Fl.upTo p own k)) (λv10 _ _=>own.length-(intOf v10).toNat)
 case atStart=>exact⟨0,_,AsD _,rfl,H0.out⟩
 case round =>
  obtain⟨k,V,hk,rfl,hG⟩:=hrel
  have HG:=hid hG
  clear hG
  have hln:=Fl.jO p own k hk
  by_cases hlt:k<own.length
  ·have hy:=ArN hlt
   have hB:=HG.out.below
   obtain⟨b1,o1,rfl,g1,on⟩:=(HR3.out.below rfl hB).at hlt
   have hp2:=HPO.out _ (List.getElem_mem hlt)
   generalize own[k]=y at hy on hp2
   obtain⟨r0,r1,r2⟩:=bL on
   rw[show k*aE.m=k*3 from rfl] at r0 r1 r2
   obtain⟨d1,i0,i1⟩:=ArK (show k<own.length by omega)
   have HN:=hid (Fl.fJ (p:=p) hy)
   have KS2:=hid (λW (hW:Below wr.heap.size wr W)=>AsG (KS.out _ (hB.trans (hW.mono hB.size))) (AsG ((hW.cell (p:=⟨b1,o1+k*3,none⟩) g1).trans r0) (AsG ((hW.cell (p:=⟨b1,o1+k*3+1,none⟩) g1).trans r1) ((hW.cell (p:=⟨b1,o1+k*3+2,none⟩) g1).trans r2))))
   have R1:=hid (AtB wr)
   have CP:=hid (λW (hW:Below wr.heap.size wr W)=>Made.of (w:=wr) hW (gL p A c A' c' y W (HI3.out.below (hB.trans (hW.mono hB.size)))))
   rw[show Fl.one p own (Fl.upTo p own k) y=if 0<Wk.position p y then Fl.on p own 9 y.s (3-Wk.position p y) { Fl.upTo p own k with seen:=[] } else Fl.upTo p own k from rfl] at HN
   generalize hpos:Wk.position p y=n at CP HN hp2
   obtain⟨s,f,t⟩:=y
   clear hpos hy on
   simp only at r0 r1 r2 HN
   obtain⟨⟨p0,p1,p2,p3,p4,p5⟩,-⟩:=KS2.out _ R1.out
   go_upto_region 6 with fail
   clear p0 p1 p2 p3 p4 p5 r0 r1 r2
   go_region_held3 (λW'=>(W'.cell? ⟨gq,0,none⟩=some (.int .i64 p.ov)/\W'.cell? ⟨gq,1,none⟩=some (.int .i64 p.ap)/\W'.cell? ⟨gq,2,none⟩=some (.int .i64 p.se)/\W'.cell? ⟨gq,3,none⟩=some (.int .i64 p.ho)/\W'.cell? ⟨gq,4,none⟩=some (.slice A p.secs.length c)/\W'.cell? ⟨gq,5,none⟩=some (.slice A' p.sigs.length c'))/\W'.cell? ⟨b1,o1+k*3,none⟩=some (.int .i64 s)/\W'.cell? ⟨b1,o1+k*3+1,none⟩=some (.int .i64 f)/\W'.cell? ⟨b1,o1+k*3+2,none⟩=some (.int .i64 t))
    (first|with_reducible exact KS2.out _ R1.out.drew|with_reducible exact KS2.out _ h5)
    (first
     | (go_at_call 121;(with_reducible refine(CP.out _ R1.out.drew).mono ?_);rintro e5 w5 ⟨rfl,-,h5,-⟩))
   have HG5:=hid (HG.out.next h5)
   obtain⟨-,r0,-,-⟩:=KS2.out _ h5
   by_cases hn:0<n
   ·have D:decide (0<n)=true:=aC hn
    have HN2:=hid (show Fl.upTo p own (k+1)=Fl.on p own 9 s (3-n) { Fl.upTo p own k with seen:=[] } from by rw[HN.out,ArZ hn])
    obtain⟨c9,f9,gl⟩:=(show w5.cell? ⟨G,9,none⟩=some V.v/\w5.frozen? ⟨G,9,none⟩=false/\G<w5.heap.size from⟨(row10f HG5.out.at_).1.2.2.2.2.2.2.2.2.2,(row10f HG5.out.at_).2.1.2.2,(row10f HG5.out.at_).2.2⟩)
    have HG6:=hid HG5.out.clear
    have hbG:b1≠G:=λe=>by
     have h1:=HG.out.hG
     have h2:b1<w3.heap.size:=by
      rcases HR3.out with h|⟨b,o,hA,hlt2,-⟩
      ·rw[h] at hlt;exact absurd hlt (Nat.not_lt_zero _)
      cases hA;exact hlt2
     omega
    have e6:(w5.setCell ⟨G,9,none⟩ (.slice none 0 0)).cell? ⟨b1,o1+k*3,none⟩=some (.int .i64 s):=(World.cell?_of_block (a:=⟨b1,o1+k*3,none⟩) (AsX w5 ⟨G,9,none⟩ b1 _ hbG)).trans r0
    have CO:=hid (AlM hf HI3.out HR3.out (by omega) 9 s (3-n) { Fl.upTo p own k with seen:=[] } _ _ HG6.out (by simp) (by simp) (by show (Fl.upTo p own k).pts.length+8<=900+0;omega) (by show (Fl.upTo p own k).fl.length+8<=900+0;omega))
    have q:IntKind.i64.wrap (3-n)=3-n:=by rw[IntWalk.i64_in _ (by omega)]
    clear hn HN h5 CP KS2
    go_wp2_with fail
    refine CO.out.mono ?_;rintro e7 w7 ⟨rfl,V7,h7⟩
    rw[<-HN2.out] at h7
    have HG7:=hid h7
    clear CO h7 e6 c9 f9 q r0
    go_wp2
    go_roundw
    case rel=>exact⟨k+1,V7,by omega,by go_num,HG7.out⟩
    case measure=>simp[intOf];omega
   have D:decide (0<n)=false:=aB hn
   have HN2:=hid (show Fl.upTo p own (k+1)=Fl.upTo p own k from by rw[HN.out,ArY hn])
   clear hn HN r0 h5
   go_wp2
   go_roundw
   case rel=>exact⟨k+1,V,by omega,by go_num,by rw[HN2.out];exact HG5.out⟩
   case measure=>simp[intOf];omega
  obtain rfl:k=own.length:=by omega
  have d1:decide ((own.length:Int)<(own.length:Int))=false:=aB (by omega)
  rw[Fl.jP] at HG
  obtain⟨⟨-,-,-,-,-,-,-,k7,k8,-⟩,-,gl⟩:=row10f HG.out.at_
  have HBX:=hid (XB.out.trans (HG.out.below.mono XB.out.size))
  have XS:=XB.out.size
  clear hln
  generalize hfo:Fl.of p own=gf at HG k7 k8 ⊢
  have HFO:=hid (show Fl.of p (S++T)=gf from by rw[HOW.out];exact hfo)
  clear hfo
  go_wp2_with fail
  go_quiet (fail)
  go_wp2_with fail
  refine bodyPost_ret ?_ rfl ⟨V.B1,V.d1,V.B2,V.d2,rfl,by rw[HFO.out];exact HG.out.pts,by rw[HFO.out];exact HG.out.l1,by rw[HFO.out];exact HG.out.fl,by rw[HFO.out];exact HG.out.l2,aH HBX.out _,λhz a ha=>ArS XS (HG.out.n1 (by rw[HFO.out] at hz;exact hz) a ha).2.2.2,λhz a ha=>ArS XS (HG.out.n2 (by rw[HFO.out] at hz;exact hz) a ha).2.2.2⟩
  simp[results,Tryz.results75,go_sem,HFO.out]
 --]
end Go.Proofs.YtjofpclmbjpgjaaGreat
namespace Go.Proofs.YtjofpclmbjpgjaaGreat.Nr
open Lib (hid)
open Go Pl Wk
def slot (a:Nat × Nat):Nat:=3*a.1+a.2
theorem AlO {a b:Nat × Nat} (ha:a.2<3) (hb:b.2<3) (h:slot a=slot b):a=b:=by
 unfold slot at h
 have h1:a.1=b.1:=by omega
 have h2:a.2=b.2:=by omega
 exact Prod.ext h1 h2
theorem slot_lt {n:Nat} {a:Nat × Nat} (h1:a.1<n) (h2:a.2<3):slot a<3*n:=by unfold slot;omega
def bet (T:List Int) (a:Nat × Nat) (n:Int):List Int:=T.set (slot a) n
theorem bN {T:List Int} {a:Nat × Nat} {n:Int} (h:slot a<T.length):at_ (bet T a n) a=n:=by
 unfold at_ bet
 show ((T.set (slot a) n)[slot a]?).getD (-1)=n
 rw[List.getElem?_set_self h]
 rfl
theorem bH {T:List Int} {a b:Nat × Nat} {n:Int} (ha:a.2<3) (hb:b.2<3) (h:b≠a):at_ (bet T a n) b=at_ T b:=by
 unfold at_ bet
 show ((T.set (slot a) n)[slot b]?).getD (-1)=_
 rw[List.getElem?_set_ne (λe=>h (AlO hb ha e.symm))]
 rfl
def weight (ap:Int) (T:List Int):Nat:=(T.map λx=>if x<0 then ap.toNat else x.toNat).sum
theorem pH {ap:Int}:∀ {T:List Int} {i:Nat} {x n:Int},T[i]?=some x->0<=n->n<ap->(x<0∨n<x)->weight ap (T.set i n)<weight ap T
 | [],i,x,n,h,_,_,_=>by simp at h
 | y :: T,0,x,n,h,h0,h1,h2=>by
   obtain rfl:y=x:=by simpa using h
   show ((if n<0 then ap.toNat else n.toNat)+weight ap T)<((if y<0 then ap.toNat else y.toNat)+weight ap T)
   rw[ArY (by omega)]
   split <;> omega
 | y :: T,i+1,x,n,h,h0,h1,h2=>by
   have:=pH (T:=T) (i:=i) (x:=x) (n:=n) (by simpa using h) h0 h1 h2
   show (_+weight ap (T.set i n))<(_+weight ap T)
   omega
theorem at_get {T:List Int} {a:Nat × Nat} (h:slot a<T.length):T[slot a]?=some (at_ T a):=by
 unfold at_
 show _=some ((T[slot a]?).getD (-1))
 rw[ArN h]
 rfl
theorem Sound.bet {p:Plan} {ap:Int} {st:Nat × Nat} {T:List Int} (h:Sound p ap st T) (hst:st.2<3) {b:Nat × Nat} {n:Int} (hb1:b.1<p.secs.length) (hb2:b.2<3) (h0:0<=n) (hn:n<ap) (hr:Reach p st b n) (hlt:at_ T b<0∨n<at_ T b):Sound p ap st (Nr.bet T b n)/\weight ap (Nr.bet T b n)<weight ap T:=by
 have hs:slot b<T.length:=by rw[h.len];exact slot_lt hb1 hb2
 have hne:st≠b:=by
  rintro rfl
  rw[h.first] at hlt
  omega
 refine⟨⟨by unfold Nr.bet;rw[List.length_set];exact h.len,λa ha1 ha2=>?_,?_⟩,pH (at_get hs) h0 hn hlt⟩
 ·by_cases e:a=b
  ·subst e
   rw[bN hs]
   exact .inr ⟨h0,hn,hr⟩
  rw[bH hb2 ha2 e]
  exact h.least a ha1 ha2
 rw[bH hb2 hst hne]
 exact h.first
theorem blank_sound {p:Plan} {ap:Int} (hap:0<ap) {st:Nat × Nat} {T:List Int} (hl:T.length=3*p.secs.length) (hT:∀ a:Nat × Nat,a.1<p.secs.length->a.2<3->at_ T a = -1) (h1:st.1<p.secs.length) (h2:st.2<3):Sound p ap st (bet T st 0):=by
 have hs:slot st<T.length:=by rw[hl];exact slot_lt h1 h2
 refine⟨by unfold bet;rw[List.length_set];exact hl,λa ha1 ha2=>?_,bN hs⟩
 by_cases e:a=st
 ·subst e
  rw[bN hs]
  exact .inr ⟨Int.le_refl _,hap,.start⟩
 rw[bH h2 ha2 e]
 exact .inl (hT a ha1 ha2)
def Blank (T:List Int) (n k:Nat):Prop:=T.length=3*n/\∀ a:Nat × Nat,a.1<k->a.2<3->at_ T a = -1
theorem Blank.next {T:List Int} {n k:Nat} (h:Blank T n k) (hk:k<n):Blank (bet (bet (bet T (k,0) (-1)) (k,1) (-1)) (k,2) (-1)) n (k+1):=by
 have l1:(bet T (k,0) (-1)).length=3*n:=by unfold bet;rw[List.length_set];exact h.1
 have l2:(bet (bet T (k,0) (-1)) (k,1) (-1)).length=3*n:=by unfold bet;rw[List.length_set];exact l1
 refine⟨by unfold bet;rw[List.length_set];exact l2,λa ha1 ha2=>?_⟩
 by_cases e2:a=(k,2)
 ·subst e2
  exact bN (by rw[l2];exact slot_lt hk (by show _<3;omega))
 rw[bH (by show _<3;omega) ha2 e2]
 by_cases e1:a=(k,1)
 ·subst e1
  exact bN (by rw[l1];exact slot_lt hk (by show _<3;omega))
 rw[bH (by show _<3;omega) ha2 e1]
 by_cases e0:a=(k,0)
 ·subst e0
  exact bN (by rw[h.1];exact slot_lt hk (by show _<3;omega))
 rw[bH (by show _<3;omega) ha2 e0]
 refine h.2 a ?_ ha2
 rcases Nat.lt_or_ge a.1 k with h3|h3
 ·exact h3
 exfalso
 have h4:a.1=k:=by omega
 obtain⟨s,e⟩:=a
 simp only at h4 ha2
 subst h4
 match e,ha2 with
 | 0,_=>exact e0 rfl
 | 1,_=>exact e1 rfl
 | 2,_=>exact e2 rfl
def ClosedTo (p:Plan) (ap:Int) (T:List Int) (a:Nat × Nat) (n:Int) (k:Nat):Prop:=∀ from_:Nat,from_<k->(∃ x∈outs p a.1 from_,x.t=(a.2:Int))->∀ b:Nat × Nat,next p a.1 from_=((b.1:Int),(b.2:Int),true)->n<ap->0<=at_ T b/\at_ T b<=n
theorem ClosedTo.all {p:Plan} {ap:Int} {T:List Int} {a:Nat × Nat} (h:ClosedTo p ap T a (at_ T a+lenAt p a.1) 3):ClosedAt p ap T a:=by
 intro _ b ⟨k,hk,hx,hn⟩ hl
 exact h k hk hx b hn hl
theorem sound_bd {p:Plan} {ap:Int} {st:Nat × Nat} {T:List Int} (h:Sound p ap st T) {a:Nat × Nat} (h1:a.1<p.secs.length) (h2:a.2<3):-1<=at_ T a/\(at_ T a<ap∨at_ T a = -1):=by
 rcases h.least a h1 h2 with h|⟨h,h',-⟩ <;> omega
end Go.Proofs.YtjofpclmbjpgjaaGreat.Nr
