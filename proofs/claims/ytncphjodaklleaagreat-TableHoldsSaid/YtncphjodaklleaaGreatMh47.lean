/- Lemmas. -/
import Derived.Test.YtncphjodaklleaaGreatMh46
set_option maxHeartbeats 16000000
set_option maxRecDepth 100000
namespace Go.Proofs.YtncphjodaklleaaGreat
open Lib (hid)
open Go.RowKit
def AmZ (p:Pl.Plan) (L:List Rt.Route) (w:World) (e:Ending) (w':World):Prop:=∃ A0 c0 A1 c1 A2 c2 A4 c4 A5 c5,e=.returned (.tuple #[.agg #[.slice A0 p.secs.length c0,.slice A1 p.secs.length c1,.slice A2 p.sigs.length c2,.int .i64 p.se,.slice A4 L.length c4,.slice A5 L.length c5],.int .i64 0]) /\
 TableIn w' ⟨A0,c0,A1,c1,A2,c2,A4,c4,A5,c5,⟨p.secs.map Pl.Sec.name,p.secs.map Pl.Sec.pt,p.sigs.map Pl.Sig.name,p.se,L,Cl.rows L⟩⟩/\Below w.heap.size w w'
theorem AiP {p:Pl.Plan} {L:List Rt.Route} (h:Rt.all p=(L,0)) {w:World} {e:Ending} {w':World} (hm:TableMade (Tb.make p) w e w'):AmZ p L w e w':=by
 have h0:(Rt.all p).2=0:=by rw[h]
 obtain ⟨⟨A0,c0,A1,c1,A2,c2,A4,c4,A5,c5,t⟩,ht,rfl,hI,hb⟩:=hm
 rw [Tb.nU h0,h] at ht ⊢
 obtain rfl:=ht
 refine ⟨A0,c0,A1,c1,A2,c2,A4,c4,A5,c5,?_,hI.in_,hb⟩
 show Ending.returned (.tuple #[.agg #[.slice A0 (p.secs.map Pl.Sec.name).length c0,.slice A1 (p.secs.map Pl.Sec.pt).length c1,.slice A2 (p.sigs.map Pl.Sig.name).length c2,.int .i64 p.se,.slice A4 L.length c4,.slice A5 (Cl.rows L).length c5],.int .i64 0])=_
 rw [AtE,AtE,AtE,Cl.rows_len]
def AoU (x:Int) (w:World) (e:Ending) (w':World):Prop:=∃ A0 c0 A1 c1 A2 c2 A4 c4 A5 c5,e=.returned (.tuple #[.agg #[.slice A0 0 c0,.slice A1 0 c1,.slice A2 0 c2,.int .i64 0,.slice A4 0 c4,.slice A5 0 c5],.int .i64 x])/\Below w.heap.size w w'
theorem AnA {p:Pl.Plan} (h:(Rt.all p).2≠0) {w:World} {e:Ending} {w':World} (hm:TableMade (Tb.make p) w e w'):AoU (Rt.all p).2 w e w':=by
 obtain ⟨⟨A0,c0,A1,c1,A2,c2,A4,c4,A5,c5,t⟩,ht,rfl,hI,hb⟩:=hm
 rw [Tb.zQ h] at ht ⊢
 obtain rfl:=ht
 exact ⟨A0,c0,A1,c1,A2,c2,A4,c4,A5,c5,rfl,hb⟩
theorem tableHolds_walk (s:ByteArray) (W:World) (_ws:s.size<=maxLen) :
 Calls Tryz.prog 5 #[.string s] W λe w'=>e=.returned (.bool true)/\Below W.heap.size W w':=by
 --[
 have AW:=hid zV
 cases hm:fZ s.data.toList with
 | none =>
   have CM:=hid (λW=>AgW hm W)
   clear hm
   go_enter Tryz.func5,Tryz.ntmps5
   go_wp2_with fail
   refine (CM.out _).mono ?_;rintro e w1 ⟨p,A,c,A',c',rfl,hb1⟩
   have B1:=hid (hb1.alloc hb1.size (aD p A c A' c'))
   clear hb1 CM
   go_wp2_with fail
   refine (AW.out _).mono ?_;rintro e w8 ⟨rfl,hb8⟩
   go_wp2
   go_ret
   exact ⟨rfl,B1.out.trans (hb8.mono B1.out.size)⟩
 | some p =>
   obtain ⟨hfit,hmeas,hap,hho⟩:=gR hm
   have hho2:0<=p.ho/\p.ho<=1125899906842624:=by omega
   have hnm:=mU hm
   have CM:=hid (λW=>rR hm W)
   clear hm
   go_enter Tryz.func5,Tryz.ntmps5
   go_wp2_with fail
   refine (CM.out _).mono ?_;rintro e w1 ⟨A,c,A',c',rfl,pin,hb1⟩
   have X1:=(AuN w1).alloc (ArT _) (aD p A c A' c')
   have B2:=hid (hb1.trans (X1.mono hb1.size))
   have RP:=hid (AuH w1 (aD p A c A' c'))
   have I2:=hid (pin.below X1)
   obtain ⟨⟨p0,p1,p2,p3,p4,p5⟩,-,gx⟩:=row6 RP.out
   clear pin hb1 X1 CM
   go_upto_region 4 with fail
   generalize w1.alloc (aD p A c A' c')=w2 at B2 RP I2 p0 p1 p2 p3 p4 p5 gx ⊢
   generalize w1.heap.size=gq at RP p0 p1 p2 p3 p4 p5 gx ⊢
   have C3:=hid (mR p hfit hmeas hap hho2 A c A' c' w2 I2.out)
   by_cases h0:(Rt.all p).2=0
   ·obtain ⟨L,hL⟩:∃ L,Rt.all p=(L,0):=⟨(Rt.all p).1,by rw[<-h0]⟩
    have ht:=Tb.qG hfit hnm
    have hr:=Tb.right_make hfit hmeas hnm h0
    rw [Tb.nU h0,hL] at ht hr
    have C4:=hid (C3.out.mono λ_ _ h=>AiP hL h)
    have CR:=hid (λW (hW:Below w2.heap.size w2 W)=>AhK p hfit hmeas hap hho2 A c A' c' W (I2.out.below hW))
    rw [hL] at CR
    have HT:=hid (AsX ht hr)
    clear hfit hmeas hap hho hho2 hnm C3 ht hr h0 hL
    go_wp2_with fail
    refine C4.out.mono ?_;rintro e w3 ⟨A0,c0,A1,c1,A2,c2,A4,c4,A5,c5,rfl,hI,hb3⟩
    have H4:=AuH w3 (.cells #[.slice A0 p.secs.length c0,.slice A1 p.secs.length c1,.slice A2 p.sigs.length c2,.int .i64 p.se,.slice A4 L.length c4,.slice A5 L.length c5] 34)
    have X4:=(AuN w3).alloc (ArT _) (.cells #[.slice A0 p.secs.length c0,.slice A1 p.secs.length c1,.slice A2 p.sigs.length c2,.int .i64 p.se,.slice A4 L.length c4,.slice A5 L.length c5] 34)
    have Y4:=hb3.trans (X4.mono hb3.size)
    have I4:=hid (hI.below X4)
    have Z4:=hid Y4
    have R4:=hid H4
    have B4:=hid (B2.out.trans (Y4.mono B2.out.size))
    clear p0 p1 p2 p3 p4 p5
    have RQ:=hid ((Y4.block _ gx).trans RP.out)
    obtain ⟨⟨p0,p1,p2,p3,p4,p5⟩,-,gq4⟩:=row6 RQ.out
    have E0:((0:Int) != 0)=false:=by decide
    clear hI hb3 X4 Y4 H4 gx RP C4
    go_upto_region 5 with fail
    generalize w3.alloc (.cells #[.slice A0 p.secs.length c0,.slice A1 p.secs.length c1,.slice A2 p.sigs.length c2,.int .i64 p.se,.slice A4 L.length c4,.slice A5 L.length c5] 34)=w4 at I4 Z4 R4 B4 RQ p0 p1 p2 p3 p4 p5 gq4 ⊢
    generalize w3.heap.size=g4 at R4 ⊢
    go_wp2_with fail
    refine (CR.out _ Z4.out).mono ?_;rintro e w5 ⟨A6,c6,rfl,-,hI,hb5⟩
    have R6:=hid hI
    have BX:=hid (B4.out.trans (hb5.mono B4.out.size))
    have I6:=hid (I4.out.below hb5)
    have KB:=hid (λW (hW:Below w5.heap.size w5 W)=>AsX (row6 ((hW.block _ (AsG (row6 R4.out).2.2 hb5.size)).trans ((hb5.block _ (row6 R4.out).2.2).trans R4.out))).1 (AsX (row6 ((hW.block _ (AsG gq4 hb5.size)).trans ((hb5.block _ gq4).trans RQ.out))).1.2.2.2.2.1 (row6 ((hW.block _ (AsG gq4 hb5.size)).trans ((hb5.block _ gq4).trans RQ.out))).1.2.2.2.2.2))
    clear p0 p1 p2 p3 p4 p5 gq4 hI hb5 R4 RQ I4 Z4 B4 B2 I2 CR E0
    go_upto_region 8 with fail
    have hlen:L.length<=30:=HT.out.1.routes
    have hsm:∀ r∈L,Rt.Small r:=HT.out.1.route
    have hbar:∀ x∈Cl.rows L,x.length<=30:=HT.out.1.bar
    have C1:=hid (λW (hW:Below w5.heap.size w5 W)=>show Calls Tryz.prog 8 #[] W (OneIs (.bool true) W) from AW.out W)
    have C2:=hid (λW (hW:Below w5.heap.size w5 W)=>show Calls Tryz.prog 13 #[.agg #[.slice A0 p.secs.length c0,.slice A1 p.secs.length c1,.slice A2 p.sigs.length c2,.int .i64 p.se,.slice A4 L.length c4,.slice A5 L.length c5]] W (OneIs (.bool true) W) from by
     have:=fY ⟨A0,c0,A1,c1,A2,c2,A4,c4,A5,c5,⟨p.secs.map Pl.Sec.name,p.secs.map Pl.Sec.pt,p.sigs.map Pl.Sig.name,p.se,L,Cl.rows L⟩⟩ W (I6.out.below hW) HT.out.1.bound
     rw [HT.out.2] at this
     have:Calls Tryz.prog 13 #[.agg #[.slice A0 (p.secs.map Pl.Sec.name).length c0,.slice A1 (p.secs.map Pl.Sec.pt).length c1,.slice A2 (p.sigs.map Pl.Sig.name).length c2,.int .i64 p.se,.slice A4 L.length c4,.slice A5 (Cl.rows L).length c5]] W (OneIs (.bool true) W):=this
     rw [AtE,AtE,AtE,Cl.rows_len] at this
     exact this)
    have C3:=hid (λW (hW:Below w5.heap.size w5 W)=>show Calls Tryz.prog 16 #[.slice A4 L.length c4,.slice A6 L.length c6] W (OneIs (.bool true) W) from AcI L A4 c4 A6 c6 W (I6.out.p4.below hW) (R6.out.below hW) (by omega) hsm)
    have C4:=hid (λW (hW:Below w5.heap.size w5 W)=>show Calls Tryz.prog 18 #[.slice A6 L.length c6] W (nR (Cl.rows L) W) from uX A6 c6 L W (R6.out.below hW) (λr hr=>(Tb.sS (hsm r hr)).tiny) (by omega))
    have C5:=hid (λW (hW:Below w5.heap.size w5 W) B d (hS:SetsIn W B (Cl.rows L))=>show Calls Tryz.prog 17 #[.slice A5 L.length c5,.slice B L.length d] W (OneIs (.bool true) W) from by
     have:=AcG A5 c5 (Cl.rows L) B d (Cl.rows L) W (I6.out.p5.below hW) (λx hx=>ArU (hbar x hx) (by decide)) hS (by rw[Cl.rows_len];omega)
     rw [Cl.rows_len,decide_eq_true (rfl:Cl.rows L=Cl.rows L)] at this
     exact this)
    have T0:=hid (AuN w5)
    have RL:=hid (Cl.rows_len L)
    clear hlen hsm hbar HT I6 R6 AW
    go_region_held3 (λW'=>(W'.cell? ⟨g4,0,none⟩=some (.slice A0 p.secs.length c0)/\W'.cell? ⟨g4,1,none⟩=some (.slice A1 p.secs.length c1)/\W'.cell? ⟨g4,2,none⟩=some (.slice A2 p.sigs.length c2)/\W'.cell? ⟨g4,3,none⟩=some (.int .i64 p.se)/\W'.cell? ⟨g4,4,none⟩=some (.slice A4 L.length c4)/\W'.cell? ⟨g4,5,none⟩=some (.slice A5 L.length c5))/\W'.cell? ⟨gq,4,none⟩=some (.slice A p.secs.length c)/\W'.cell? ⟨gq,5,none⟩=some (.slice A' p.sigs.length c'))
     (first|with_reducible exact KB.out _ T0.out.drew|with_reducible exact KB.out _ h5|with_reducible exact KB.out _ h4|with_reducible exact KB.out _ h3|with_reducible exact KB.out _ h2|with_reducible exact KB.out _ h1)
     (first
      | (go_at_call 8;(with_reducible refine (C1.out _ T0.out.drew).mono ?_);rintro e1 w1 ⟨rfl,hb1⟩;have h1:=T0.out.drew.trans (hb1.mono T0.out.drew.size);clear hb1)
      | (go_at_call 13;(with_reducible refine (C2.out _ h1).mono ?_);rintro e2 w2 ⟨rfl,hb2⟩;have h2:=h1.trans (hb2.mono h1.size);clear hb2)
      | (go_at_call 16;(with_reducible refine (C3.out _ h2).mono ?_);rintro e3 w3 ⟨rfl,hb3⟩;have h3:=h2.trans (hb3.mono h2.size);clear hb3)
      | (go_at_call 18;(with_reducible refine (C4.out _ h3).mono ?_);rintro e4 w4 ⟨BM,dM,rfl,hM,hb4⟩;have h4:=h3.trans (hb4.mono h3.size);have HM:=hid hM;clear hM hb4;rw[RL.out])
      | (go_at_call 17;(with_reducible refine (C5.out _ h4 _ _ HM.out).mono ?_);rintro e5 w5 ⟨rfl,hb5⟩;have h5:=h4.trans (hb5.mono h4.size);clear hb5))
    have F7:=hid (BX.out.trans (h5.mono BX.out.size))
    clear h5 h4 h3 h2 h1
    go_wp2
    go_ret
    exact ⟨rfl,F7.out⟩
   have C4:=hid (C3.out.mono λ_ _ h=>AnA h0 h)
   have E0:((Rt.all p).2 != 0)=true:=by rw[AuG];exact h0
   generalize (Rt.all p).2=x at C4 E0
   clear hfit hmeas hap hho hho2 hnm C3 h0 I2
   go_wp2_with fail
   refine C4.out.mono ?_;rintro e w3 ⟨A0,c0,A1,c1,A2,c2,A4,c4,A5,c5,rfl,hb3⟩
   have R4:=hid (AuH w3 (.cells #[.slice A0 0 c0,.slice A1 0 c1,.slice A2 0 c2,.int .i64 0,.slice A4 0 c4,.slice A5 0 c5] 34))
   have B3:=hid (B2.out.trans (hb3.mono B2.out.size))
   have B4:=hid (B3.out.alloc B3.out.size (.cells #[.slice A0 0 c0,.slice A1 0 c1,.slice A2 0 c2,.int .i64 0,.slice A4 0 c4,.slice A5 0 c5] 34))
   clear p0 p1 p2 p3 p4 p5 gx RP hb3 C4 B3 B2
   go_upto_region 6 with fail
   generalize w3.alloc (.cells #[.slice A0 0 c0,.slice A1 0 c1,.slice A2 0 c2,.int .i64 0,.slice A4 0 c4,.slice A5 0 c5] 34)=w4 at R4 B4 ⊢
   generalize w3.heap.size=g4 at R4 ⊢
   go_wp2_with fail
   refine (AW.out _).mono ?_;rintro e w8 ⟨rfl,hb8⟩
   obtain ⟨⟨q0,q1,q2,q3,q4,q5⟩,-,-⟩:=row6 ((hb8.block _ (row6 R4.out).2.2).trans R4.out)
   have BX:=hid (B4.out.trans (hb8.mono B4.out.size))
   clear hb8 R4 B4
   go_wp2
   go_ret
   exact ⟨rfl,BX.out⟩
 --]
end Go.Proofs.YtncphjodaklleaaGreat
