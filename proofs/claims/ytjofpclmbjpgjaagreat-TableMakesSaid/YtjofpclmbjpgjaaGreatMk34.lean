/- Lemmas. -/
import Derived.Test.YtjofpclmbjpgjaaGreatMk33
import Derived.Test.YtjofpclmbjpgjaaGreatProg
import Derived.Ground.Names2Prog
import Derived.Lib.RowBridge
import Derived.Lib.SlicesCompact
import Derived.Shelf.Bits.Mul64
import Derived.Shelf.Slices.CompactI
import Derived.Shelf.Slices.In.SortNone
import Derived.Shelf.Sort.Plain
import Derived.Sort.OwnSortedInts
set_option maxHeartbeats 16000000
set_option maxRecDepth 100000
namespace Go.Proofs.YtjofpclmbjpgjaaGreat
open Lib (hid)
open Go.RowKit
section
variable {p : Pl.Plan} {A : Option Addr} {c : Nat} {A' : Option Addr} {c' : Nat} {B : Option Addr} {d : Nat} {own : List Wk.Stp} {G : Nat} {w0 wr : World} {V : SchV} {g : Fl.G}
theorem AcT (hL:aE.Row w0 B own) (hl:own.length<=500) (q:Int) (h:SchAt p A c A' c' B d own.length G w0 wr V g) (h8:g.seen.length<=8) :
 Calls Tryz.prog 139 #[.pointer (some ⟨G,0,none⟩),.int .i64 q] wr (OneIs (.bool (decide (g.seen.length=8) || (Wk.within own q || g.seen.any (λy=>decide (y=q))))) wr):=by
 --[
 obtain⟨B1,d1,v,u⟩:=V
 obtain⟨-,B3,d3,hv,hd3,hR3⟩:=Lies.Row.of_own (E:=aF) h.seen
 have hv':v=.slice B3 g.seen.length d3:=hv
 subst hv'
 have R3:=hid hR3
 have H0:=hid h
 have B0:=hid (AtB wr)
 have CW:=hid (bG B d own q wr (hL.below rfl h.below) (by omega))
 obtain⟨⟨-,-,-,-,-,-,p6,-,p8,-⟩,-,gg⟩:=row10s h.at_
 clear hv hd3 hR3 hL h
 by_cases h88:g.seen.length=8
 ·have D8:((g.seen.length:Int) == 8)=true:=by rw[beq_iff_eq];omega
  rw[decide_eq_true h88,Bool.true_or]
  clear h88
  go_enter Tryz.func139,Tryz.ntmps139
  go_wp2
  go_ret
  exact⟨rfl,B0.out⟩
 have D8:((g.seen.length:Int) == 8)=false:=by rw[ArU];omega
 rw[decide_eq_false h88,Bool.false_or]
 cases hw:Wk.within own q with
 | true =>
   rw[hw] at CW
   rw[Bool.true_or]
   clear hw h88
   go_enter Tryz.func139,Tryz.ntmps139
   go_wp2_with fail
   refine CW.out.mono ?_;rintro e w2 ⟨rfl,hb2⟩
   have B2:=hid hb2
   clear hb2
   go_wp2
   go_ret
   exact⟨rfl,B2.out⟩
 | false =>
   rw[hw] at CW
   rw[Bool.false_or]
   have CH:=hid (λW (hb:Below wr.heap.size wr W)=>AhV B3 d3 g.seen q W (R3.out.below rfl hb) (by omega))
   generalize g.seen.any (λy=>decide (y=q))=z at CH ⊢
   clear hw h88
   go_enter Tryz.func139,Tryz.ntmps139
   go_wp2_with fail
   refine CW.out.mono ?_;rintro e w2 ⟨rfl,hb2⟩
   have B2:=hid hb2
   clear p6 p8 gg
   obtain⟨⟨-,-,-,-,-,-,-,-,p8,-⟩,-,gg⟩:=row10s (H0.out.next hb2).at_
   clear hb2
   go_wp2_with fail
   refine(CH.out _ B2.out).mono ?_;rintro e w3 ⟨rfl,rfl⟩
   go_wp2
   go_ret
   exact⟨rfl,B2.out⟩
 --]
theorem vF (hI:PlanIn w0 p A A') (hsl:p.secs.length<=24) {n:Nat} (q f:Int) (hf:0<=f/\f<=2) (h:SchAt p A c A' c' B d n G w0 wr V g) (hp:g.pts.length<=900) :
 Calls Tryz.prog 140 #[.pointer (some ⟨G,0,none⟩),.int .i64 q,.int .i64 f] wr (pR p A c A' c' B d n G w0 wr V g.pts { g with pts:=Fl.asked p q f g.pts } (.bool (Fl.turned p q f g.pts))):=by
 --[
 have hpos:0<=Wk.position p ⟨q,f,0⟩/\Wk.position p ⟨q,f,0⟩<=2:=by
  rw[Fl.position_leg hf.1]
  split <;> omega
 have CP:=hid (eL p A c A' c' ⟨q,f,0⟩ wr (hI.below h.below) hsl)
 have HA:=hid (show Fl.asked p q f g.pts=if Wk.position p ⟨q,f,0⟩=0 then g.pts else Dm.put g.pts ⟨q,3-Wk.position p ⟨q,f,0⟩⟩ from rfl)
 have HT:=hid (show Fl.turned p q f g.pts=(decide (Wk.position p ⟨q,f,0⟩ ≠ 0) && decide (Dm.posOf (Dm.put g.pts ⟨q,3-Wk.position p ⟨q,f,0⟩⟩) q≠Wk.position p ⟨q,f,0⟩)) from rfl)
 generalize Wk.position p ⟨q,f,0⟩=m at CP HA HT hpos
 have H0:=hid h
 obtain⟨⟨p0,p1,p2,p3,p4,p5,-,p7,-,-⟩,-,gg⟩:=row10s h.at_
 clear h hI hf
 go_enter Tryz.func140,Tryz.ntmps140
 go_wp2_with fail
 refine CP.out.mono ?_;rintro e w1 ⟨rfl,hb1⟩
 have T1:=hid (show kN wr w1 from Below.tame hb1 _ _)
 have H1:=hid (H0.out.next hb1)
 clear p0 p1 p2 p3 p4 p5 p7 gg hb1 CP
 obtain⟨⟨p0,p1,p2,p3,p4,p5,-,p7,-,-⟩,⟨f7,-,-⟩,gg⟩:=row10s H1.out.at_
 by_cases hm:m=0
 ·have D:(m == 0)=true:=by rw[beq_iff_eq];exact hm
  have E1:=hid (show Fl.asked p q f g.pts=g.pts from by rw[HA.out,ArZ hm])
  have E2:=hid (show Fl.turned p q f g.pts=false from by rw[HT.out,decide_eq_false (λe=>e hm)];rfl)
  clear hm hpos
  go_wp2
  go_ret
  exact⟨by rw[E2.out] <;> rfl,V,by rw[E1.out];exact H1.out,T1.out,by rw[E1.out];exact PtsNew.refl _ _ _⟩
 have D:(m == 0)=false:=by rw[ArU];exact hm
 have E1:=hid (show Fl.asked p q f g.pts=Dm.put g.pts ⟨q,3-m⟩ from by rw[HA.out,ArY hm])
 have E2:=hid (show Fl.turned p q f g.pts=decide (Dm.posOf (Dm.put g.pts ⟨q,3-m⟩) q≠m) from by rw[HT.out,decide_eq_true hm,Bool.true_and])
 have CO:=hid (λW=>mK m W hpos)
 have CF:=hid (λW (hb:Below w1.heap.size w1 W)=>sA V.B1 V.d1 g.pts ⟨q,3-m⟩ W (H1.out.pts.below rfl hb) hp H1.out.l1)
 have B1:=hid (AtB w1)
 have K7:=hid (λW (hb:Below w1.heap.size w1 W)=>row10s (H1.out.next hb).at_)
 clear hm hpos p0 p1 p2 p3 p4 p5
 go_upto_region 4 with fail
 go_region_law (first
  | (go_simp
     go_at_call 107
     (with_reducible refine(CO.out _).mono ?_)
     rintro e w2 ⟨rfl,rfl⟩)
  | (go_simp
     go_at_call 138
     (with_reducible refine(CF.out _ B1.out.drew).mono ?_)
     rintro e w3 ⟨B',d',rfl,hR,hd,hb3,hnew⟩
     have R3:=hid hR
     have D3:=hid hd
     have T3:=hid (B1.out.drew.trans (hb3.mono B1.out.drew.size))
     have N3:=hid hnew
     obtain⟨⟨-,-,-,-,-,-,-,k7,-,-⟩,⟨g7,-,-⟩,gg3⟩:=K7.out _ (B1.out.drew.trans (hb3.mono B1.out.drew.size))
     clear hR hd hb3 hnew))
 all_goals
  have S3:=hid (H1.out.setPts T3.out R3.out D3.out (λa ha=>ArS B1.out.drew.size (N3.out a ha)) (λhz=>R3.out.lt hz))
  have NW:=hid (λa ha=>ArS (ArS T1.out.size B1.out.drew.size) (N3.out a ha))
  clear p7 f7 gg k7 g7 gg3
  generalize w3.setCell ⟨G,7,none⟩ (.slice B' (Dm.put g.pts ⟨q,3-m⟩).length d')=w4 at S3 ⊢
  obtain⟨⟨-,-,-,-,-,-,-,p7,-,-⟩,-,gg⟩:=row10s S3.out.1.at_
  have hpl:(Dm.put g.pts ⟨q,3-m⟩).length<=1000000:=by
   have:=Fl.dm_put_len g.pts ⟨q,3-m⟩
   omega
  have CQ:=hid (cU B' d' (Dm.put g.pts ⟨q,3-m⟩) q w4 S3.out.1.pts hpl)
  have FIN:=hid (λw5 (hb:Below w4.heap.size w4 w5)=>show pR p A c A' c' B d n G w0 wr V g.pts { g with pts:=Fl.asked p q f g.pts } (.bool (Fl.turned p q f g.pts)) (.returned (.bool (Fl.turned p q f g.pts))) w5 from
   ⟨rfl,_,by rw[E1.out];exact S3.out.1.next hb,(T1.out.trans S3.out.2).trans (Below.tame hb _ _),.inr NW.out⟩)
  have EY:=E2.out
  rw[EY] at FIN
  clear hpl
  generalize Dm.posOf (Dm.put g.pts ⟨q,3-m⟩) q=z at CQ FIN EY
  have ZZ:(z != m)=decide (z≠m):=by
   by_cases h:z=m
   ·rw[decide_eq_false (λe=>e h)]
    exact bne_eq_false_iff_eq.2 h
   rw[decide_eq_true h]
   exact AsV.2 h
  generalize decide (z≠m)=y at ZZ FIN EY
  have EY:=hid EY
  go_wp2_with fail
  refine CQ.out.mono ?_;rintro e w5 ⟨rfl,hb5⟩
  have FF:=hid (FIN.out _ hb5)
  clear hb5 CQ p7 gg
  go_wp2
  go_ret
  rw[EY.out]
  exact FF.out
 --]
theorem AcU (hf:Pl.Fit p) (hI:PlanIn w0 p A A') (hL:aE.Row w0 B own) (hl:own.length<=500) (hsl:p.secs.length<=24):∀ (k:Nat) (s e:Int) (g:Fl.G) (wr:World) (V:SchV),SchAt p A c A' c' B d own.length G w0 wr V g->9<=g.seen.length+k->g.seen.length<=8->g.pts.length+8<=900+g.seen.length->g.fl.length+8<=900+g.seen.length ->
 Calls Tryz.prog 106 #[.pointer (some ⟨G,0,none⟩),.int .i64 s,.int .i64 e] wr (pR p A c A' c' B d own.length G w0 wr V g.pts (Fl.go p own k s e g) (.tuple #[])):=by
 intro k
 induction k with
 | zero=>intro s e g wr V h h9 h8;omega
 | succ k ih =>
   rintro s e g wr V h h9 h8 h1 h2
   have IH:=hid ih
   have HI:=hid hI
   have HL:=hid hL
   have HF:=hid hf
   have H0:=hid h
   obtain⟨⟨p0,p1,p2,p3,p4,p5,-,-,-,-⟩,-,gg⟩:=row10s h.at_
   have CN:=hid (dC p A c A' c' s e wr (hI.below h.below) hsl)
   generalize hnx:Wk.next p s e=nx at CN
   have HNX:=hid hnx
   obtain⟨q,f,ok⟩:=nx
   clear hnx ih hI hL hf h
   go_enter Tryz.func106,Tryz.ntmps106
   go_wp2_with fail
   refine CN.out.mono ?_;rintro e' w1 ⟨rfl,hb1⟩
   have H1:=hid (H0.out.next hb1)
   have T1:=hid (show kN wr w1 from Below.tame hb1 _ _)
   clear p0 p1 p2 p3 p4 p5 gg H0 CN hb1
   cases ok with
   | false =>
     have E:=hid (show Fl.go p own (k+1) s e g=g from Fl.go_ends (by unfold Fl.ends_;rw[HNX.out];rfl))
     go_wp2_with fail
     go_end0
     exact⟨rfl,V,by rw[E.out];exact H1.out,T1.out,by rw[E.out];exact PtsNew.refl _ _ _⟩
   | true =>
   have CE:=hid (AcT HL.out hl q H1.out h8)
   have hz:Fl.ends_ p own s e g=(decide (g.seen.length=8) || (Wk.within own q || g.seen.any (λy=>decide (y=q)))):=by
    unfold Fl.ends_
    rw[HNX.out]
    simp only[Bool.not_true,Bool.false_or]
    rw[Bool.or_comm (decide _),Bool.or_assoc]
   rw[<-hz] at CE
   clear hz
   cases hE:Fl.ends_ p own s e g with
   | true =>
     rw[hE] at CE
     have E:=hid (show Fl.go p own (k+1) s e g=g from Fl.go_ends hE)
     clear hE
     go_wp2_with fail
     refine CE.out.mono ?_;rintro e' w2 ⟨rfl,hb2⟩
     have H2:=hid (H1.out.next hb2)
     have T2:=hid (T1.out.trans (Below.tame hb2 _ _))
     clear hb2
     go_wp2_with fail
     go_end0
     exact⟨rfl,V,by rw[E.out];exact H2.out,T2.out,by rw[E.out];exact PtsNew.refl _ _ _⟩
   | false =>
   rw[hE] at CE
   have h88:=Fl.ends_len hE
   have NE:=hid hE
   obtain⟨⟨hq0,hq1⟩,hf0,hf2⟩:=Fl.next_fit HF.out HNX.out
   clear hE
   go_wp2_with fail
   refine CE.out.mono ?_;rintro e' w2 ⟨rfl,hb2⟩
   have H2:=hid (H1.out.next hb2)
   have T2:=hid (T1.out.trans (Below.tame hb2 _ _))
   clear hb2 CE H1 T1
   obtain⟨B1,d1,v,u⟩:=V
   obtain⟨-,B3,d3,hv,hd3,hR3⟩:=Lies.Row.of_own (E:=aF) H2.out.seen
   have hv':v=.slice B3 g.seen.length d3:=hv
   subst hv'
   obtain⟨-,B4,d4,hv4,hd4,hR4⟩:=Lies.Row.of_own (E:=aF) H2.out.sigs
   have hv4':u=.slice B4 g.fl.length d4:=hv4
   subst hv4'
   clear hv hd3 hR3 hv4 hd4 hR4
   obtain⟨⟨p0,p1,p2,p3,p4,p5,p6,p7,p8,p9⟩,⟨f7,f8,f9⟩,gg⟩:=row10s H2.out.at_
   obtain⟨i0',hi,hz0,hz1,hz2⟩:=info_parts fT
   have O1:=hid (H2.out.seen.alloc (.cells #[.int .i64 q] 3))
   have R1:=hid (show aF.Row (w2.alloc (.cells #[.int .i64 q] 3)) (some ⟨w2.heap.size,0,none⟩) [q] from Lies.Row.fresh (E:=aF) w2 [q] 3)
   have XB:=hid ((AtB w2).alloc (ArR _) (.cells #[.int .i64 q] 3))
   have A1:=hid ((heap_alloc_old w2 (.cells #[.int .i64 q] 3) gg).trans H2.out.at_)
   go_upto_region 3 with (
    at_builtin
    refine aG aF _ rfl (.tmp 34) (.tmp 36) 90 rfl (G+1) 3 i0' _ 8 Tryz.underlying90 hi hz0 hz1 hz2 rfl (.slice B3 g.seen.length d3) g.seen.length (aF.all g.seen) rfl O1.out (some ⟨w2.heap.size,0,none⟩) 1 1 [q] rfl (by decide) rfl R1.out (by omega) (by omega) (by simp;omega) ?_
    intro g1 cap1 w4 hown hg1 hgr
    have HO:=hid hown
    have HG:=hid hg1
    have HGR:=hid hgr
    have A4:=hid ((hg1.block G (by simp;omega) (λe=>absurd (O1.out.lt G e.symm).1 (by omega))).trans A1.out)
    clear hown hg1 hgr
    clear p0 p1 p2 p3 p4 p5 p6 p7 p8 p9 f7 f8 f9 gg
    obtain⟨⟨-,-,-,-,-,-,-,-,p8,-⟩,⟨-,f8,-⟩,gg⟩:=row10s A4.out)
   have H3:=hid (H2.out.see XB.out HO.out HG.out (λk hk=>by
    cases hk
    rcases HGR.out with h|h
    ·exact .inl h
    exact .inr (by rw[h];simp)))
   have T3:=hid (T2.out.trans H3.out.2)
   have H3:=hid H3.out.1
   clear A4 A1 XB R1 O1 HO HG HGR p8 f8 gg H2 T2
   have hs1:(g.seen++[q]).length=g.seen.length+1:=by rw[ArV];rfl
   generalize w4.setCell ⟨G,8,none⟩ (.slice (some ⟨g1,0,none⟩) (g.seen.length+1) cap1)=w5 at H3 T3 ⊢
   generalize hg5:({ g with seen:=g.seen++[q] }:Fl.G)=g5 at H3
   have HG5:=hid hg5
   have hp5:g5.pts=g.pts:=by rw[<-hg5]
   have hf5:g5.fl=g.fl:=by rw[<-hg5]
   have hs5:g5.seen.length=g.seen.length+1:=by rw[<-hg5];exact hs1
   have l5:g5.pts.length=g.pts.length:=by rw[hp5]
   have m5:g5.fl.length=g.fl.length:=by rw[hf5]
   have HP5:=hid hp5
   have HF5:=hid hf5
   clear hg5 hp5 hf5 hs1
   obtain⟨⟨p0,p1,p2,p3,p4,p5,-,-,-,-⟩,-,gg⟩:=row10s H3.out.at_
   have CS:=hid (jZ p A c A' c' q f w5 (HI.out.below H3.out.below) hsl)
   generalize hsg:Wk.signal p q f=x at CS
   have HSG:=hid hsg
   clear hsg
   go_wp2_with fail
   refine CS.out.mono ?_;rintro e' w6 ⟨rfl,hb6⟩
   have H6:=hid (H3.out.next hb6)
   have T6:=hid (T3.out.trans (Below.tame hb6 _ _))
   clear p0 p1 p2 p3 p4 p5 gg CS hb6 H3 T3
   by_cases hx:0<=x
   ·have D1:decide (0<=x)=true:=aC hx
    have E:=hid (Fl.go_sig (k:=k) HNX.out NE.out (by rw[HSG.out];exact hx))
    obtain⟨⟨-,-,-,-,-,-,-,-,-,p9⟩,⟨-,-,f9⟩,gg⟩:=row10s H6.out.at_
    have O1:=hid (H6.out.sigs.alloc (.cells #[.int .i64 x] 3))
    rw[m5] at O1
    have R1:=hid (show aF.Row (w6.alloc (.cells #[.int .i64 x] 3)) (some ⟨w6.heap.size,0,none⟩) [x] from Lies.Row.fresh (E:=aF) w6 [x] 3)
    have XB:=hid ((AtB w6).alloc (ArR _) (.cells #[.int .i64 x] 3))
    have A1:=hid ((heap_alloc_old w6 (.cells #[.int .i64 x] 3) gg).trans H6.out.at_)
    clear hx
    go_wp2_with (
     at_builtin
     refine aG aF _ rfl (.tmp 53) (.tmp 55) 90 rfl (G+1) 3 i0' _ 8 Tryz.underlying90 hi hz0 hz1 hz2 rfl (.slice B4 g.fl.length d4) g.fl.length (aF.all g5.fl) rfl O1.out (some ⟨w6.heap.size,0,none⟩) 1 1 [x] rfl (by decide) rfl R1.out (by omega) (by omega) (by simp;omega) ?_
     intro g2 cap2 w7 hown hg1 hgr
     have HO:=hid hown
     have HG:=hid hg1
     have HGR:=hid hgr
     have A4:=hid ((hg1.block G (by simp;omega) (λe=>absurd (O1.out.lt G e.symm).1 (by omega))).trans A1.out)
     clear hown hg1 hgr
     clear p9 f9 gg
     obtain⟨⟨-,-,-,-,-,-,-,-,-,p9⟩,⟨-,-,f9⟩,gg⟩:=row10s A4.out)
    have H7:=hid (H6.out.tell XB.out (by rw[m5];exact HO.out) HG.out (λk hk=>by
     cases hk
     rcases HGR.out with h|h
     ·exact .inl h
     exact .inr (by rw[h];simp)))
    go_end0
    have e5:=HG5.out
    subst e5
    rw[E.out,HSG.out]
    exact⟨rfl,_,H7.out.1,T6.out.trans H7.out.2,PtsNew.refl _ _ _⟩
   have D1:decide (0<=x)=false:=aB hx
   have hx':¬ 0<=Wk.signal p q f:=by rw[HSG.out];exact hx
   have ET:=hid (λht=>Fl.go_turn (k:=k) HNX.out NE.out hx' ht)
   have EG:=hid (λht=>Fl.go_goes (k:=k) HNX.out NE.out hx' ht)
   have CT:=hid (vF HI.out hsl q f ⟨hf0,hf2⟩ H6.out (by omega))
   clear hx hx'
   go_wp2_with fail
   refine CT.out.mono ?_;rintro e' w7 ⟨rfl,V7,h7,t7,n7⟩
   have H7:=hid h7
   have T7:=hid (T6.out.trans t7)
   have S67:=hid t7.size
   have N7:=hid n7
   clear h7 t7 n7 CT
   rw[show Fl.asked p q f g5.pts=Fl.asked p q f g.pts by rw[HP5.out],show ({ g5 with pts:=Fl.asked p q f g.pts }:Fl.G)={ g with seen:=g.seen++[q],pts:=Fl.asked p q f g.pts } by rw[<-HG5.out]] at H7
   rw[show Fl.asked p q f g5.pts=Fl.asked p q f g.pts by rw[HP5.out],HP5.out] at N7
   rw[HP5.out]
   cases ht:Fl.turned p q f g.pts with
   | true =>
     have E:=hid (ET.out ht)
     clear ht
     go_wp2_with fail
     go_end0
     rw[E.out]
     exact⟨rfl,V7,H7.out,T7.out,PtsNew.mono N7.out T6.out.size⟩
   | false =>
     have E:=hid (EG.out ht)
     have ha:(Fl.asked p q f g.pts).length<=g.pts.length+1:=by
      unfold Fl.asked
      split
      ·omega
      exact Fl.dm_put_len _ _
     have HLEN:=hid (AsG ha (AsG hs5 (AsG h1 (AsG h2 (AsG h9 h88)))))
     clear ht ET EG ha
     obtain⟨⟨p0,p1,p2,p3,p4,p5,-,-,-,-⟩,-,gg⟩:=row10s H7.out.at_
     have CO:=hid (jH p A c A' c' q f w7 (HI.out.below H7.out.below) hsl)
     have hlo:=Wk.outs_len p q f
     generalize Wk.outs p q f=L at CO hlo E
     go_wp2_with fail
     refine CO.out.mono ?_;rintro e' w8 ⟨Al,dl,rfl,hol,hb8⟩
     have H8:=hid (H7.out.next hb8)
     have T8:=hid (T7.out.trans (Below.tame hb8 _ _))
     have OL:=hid hol
     have S68:=hid (ArS S67.out hb8.size)
     clear p0 p1 p2 p3 p4 p5 gg CO hb8 hol H7 S67
     go_wp2_with fail
     generalize hg7:({ g with seen:=g.seen++[q],pts:=Fl.asked p q f g.pts }:Fl.G)=g7 at H8 E
     have hp7:g7.pts=Fl.asked p q f g.pts:=by rw[<-hg7]
     have hf7:g7.fl=g.fl:=by rw[<-hg7]
     have hs7:g7.seen.length=g.seen.length+1:=by rw[<-hg7];exact ArV
     rw[<-hp7] at N7
     have HL7:=hid (show g7.pts.length<=g.pts.length+1/\g7.fl.length=g.fl.length/\g7.seen.length=g.seen.length+1 from⟨by rw[hp7];exact HLEN.out.1,by rw[hf7],hs7⟩)
     clear hg7 hp7 hf7 hs7 hs5 l5 m5
     go_loopw [71] (λi w'=>∃ (j:Nat) (V':SchV),j<=L.length/\i=.int .i64 j/\SchAt p A c A' c' B d own.length G w0 w' V' ((L.take j).foldl (λg x=>Fl.go p own k q x.t g) g7)/\kN w8 w'/\PtsNew V7 V' g7.pts ((L.take j).foldl (λg x=>Fl.go p own k q x.t g) g7).pts w8) (λi _=>L.length-(intOf i).toNat)
     case atStart=>exact⟨0,V7,AsD _,rfl,H8.out,Tame.refl _ _ _,PtsNew.refl _ _ _⟩
     case round =>
      obtain⟨j,V',hj,rfl,hS,hT,hN⟩:=hrel
      have HS:=hid hS
      have HT:=hid hT
      have HN:=hid hN
      clear hS hT hN
      by_cases hlt:j<L.length
      ·have hstep:=Fl.fold_next (p:=p) (own:=own) (k:=k) (q:=q) (h:=g7) hlt
       have hadd:=Fl.fold_adds p own k q (L.take j) g7
       have OLr:=aX OL.out HT.out (by decide) (by decide)
       obtain⟨bl,ol,rfl,hbl,on⟩:=(OwnS.row OLr).at hlt
       obtain⟨a0,a1,a2⟩:=bL on
       rw[show j*aE.m=j*3 from rfl] at a0 a1 a2
       generalize (L.take j).foldl (λg x=>Fl.go p own k q x.t g) g7=gj at HS HN hstep hadd
       obtain⟨b1,b2,b3,b4⟩:=hadd
       obtain⟨d1,i0,i1⟩:=ArK (show j<L.length by omega)
       generalize L[j]=x at hstep a0 a1 a2
       obtain⟨xs,xf,xt⟩:=x
       simp only at hstep a0 a1 a2
       have X:=(AtB wr).alloc (ArR _) (.cells #[.int .i64 xs,.int .i64 xf,.int .i64 xt] 129)
       have RX:=hid (AsW wr (.cells #[.int .i64 xs,.int .i64 xf,.int .i64 xt] 129))
       have H9:=hid (HS.out.next X)
       have T9:=hid (HT.out.trans (Below.tame X _ _))
       have N9:=hid HN.out
       have HST:=hid hstep
       have hl9:=HL7.out
       have hh1:=HLEN.out
       clear OLr on hstep X HS HT HN
       go_upto_region 10 with fail
       generalize wr.alloc (.cells #[.int .i64 xs,.int .i64 xf,.int .i64 xt] 129)=w9 at RX H9 T9 ⊢
       generalize wr.heap.size=gx at RX ⊢
       clear a0 a1 a2 hbl
       obtain⟨⟨a0,a1,a2⟩,-,ga⟩:=row3 RX.out
       have CI:=hid (IH.out q xt gj w9 V' H9.out (by omega) (b2 (by omega)) (by omega) (by omega))
       clear b1 b2 b3 b4 hl9 hh1
       go_wp2_with fail
       refine CI.out.mono ?_;rintro e' w10 ⟨rfl,V10,h10,t10,n10⟩
       rw[<-HST.out] at h10 n10
       have H10:=hid h10
       have T10:=hid (T9.out.trans t10)
       have N10:=hid (N9.out.trans n10 T9.out.size)
       clear h10 t10 n10 CI a0 a1 a2 ga
       go_wp2
       go_roundw
       case rel=>exact⟨j+1,V10,by omega,by go_num,H10.out,T10.out,N10.out⟩
       case measure=>simp[intOf];omega
      obtain rfl:j=L.length:=by omega
      have d1:decide ((L.length:Int)<(L.length:Int))=false:=aB (by omega)
      rw[List.take_length] at HS HN
      go_wp2_with fail
      go_end0
      rw[E.out]
      exact⟨rfl,V',HS.out,T8.out.trans HT.out,PtsNew.mono (PtsNew.trans N7.out HN.out S68.out) T6.out.size⟩
end
end Go.Proofs.YtjofpclmbjpgjaaGreat
namespace Go.Proofs.YtjofpclmbjpgjaaGreat.Fl
open Lib (hid)
open Go Pl Wk
theorem pU (d:Array Int) (h:∀ i j,i<=j->j<d.size->d[i]!<=d[j]!):∀ m,m<=d.size->(Lib.compactUpTo d m).Pairwise (·<·)/\∀ x,x∈Lib.compactUpTo d m ↔ ∃ j,j<m/\d[j]! = x
 | 0,_=>⟨.nil,λx=>⟨λh=>(by cases h),λ⟨j,hj,_⟩=>absurd hj (Nat.not_lt_zero _)⟩⟩
 | m + 1, hm=>by
   obtain⟨h1,h2⟩:=pU d h m (by omega)
   rw[Lib.compactUpTo_succ]
   by_cases hk:Lib.keeps d m=true
   ·rw[ArZ hk]
    refine⟨List.pairwise_append.2 ⟨h1,List.pairwise_singleton ..,λx hx y hy=>?_⟩,λx=>?_⟩
    ·rw[AsS.1 hy]
     obtain⟨j,hj,rfl⟩:=(h2 x).1 hx
     unfold Lib.keeps at hk
     have hk':=of_decide_eq_true hk
     have hne:d[m]! ≠ d[m-1]!:=by
      rcases hk' with h0|h0
      ·omega
      exact h0
     have a1:=h j (m-1) (by omega) (by omega)
     have a2:=h (m-1) m (by omega) (by omega)
     omega
    rw[ArW,h2,AsS]
    constructor
    ·rintro(⟨j,hj,e⟩|e)
     ·exact⟨j,by omega,e⟩
     exact⟨m,by omega,e.symm⟩
    rintro⟨j,hj,e⟩
    by_cases hjm:j=m
    ·subst hjm;exact .inr e.symm
    exact .inl ⟨j,by omega,e⟩
   rw[ArY hk,AsM]
   refine⟨h1,λx=>?_⟩
   rw[h2]
   have hm0:¬ (m=0∨d[m]! ≠ d[m-1]!):=λe=>hk (decide_eq_true e)
   constructor
   ·rintro⟨j,hj,e⟩
    exact⟨j,by omega,e⟩
   rintro⟨j,hj,e⟩
   by_cases hjm:j=m
   ·subst hjm
    refine⟨j-1,by omega,?_⟩
    rw[<-e]
    by_cases he:d[j]! = d[j-1]!
    ·exact he.symm
    exact absurd (.inr he) hm0
   exact⟨j,by omega,e⟩
theorem vH {zs:List Int} (h:zs.Pairwise (·<=·)):(Lib.compact zs).Pairwise (·<·)/\∀ x,x∈Lib.compact zs ↔ x∈zs:=by
 have hget:∀ j,j<zs.length->zs.toArray[j]! = zs[j]!:=λj hj=>by simp
 have hs:∀ i j,i<=j->j<zs.toArray.size->zs.toArray[i]!<=zs.toArray[j]!:=by
  intro i j hij hj
  have hj':j<zs.length:=by simpa using hj
  rw[hget i (by omega),hget j hj',getElem!_pos zs i (by omega),getElem!_pos zs j hj']
  rcases Nat.lt_or_eq_of_le hij with h1|h1
  ·exact List.pairwise_iff_getElem.1 h i j (by omega) hj' h1
  subst h1;exact Int.le_refl _
 obtain⟨h1,h2⟩:=pU zs.toArray hs zs.length (by simp)
 refine⟨h1,λx=>?_⟩
 show x∈Lib.compactUpTo zs.toArray zs.length ↔ _
 rw[h2]
 constructor
 ·rintro⟨j,hj,e⟩
  rw[hget j hj,getElem!_pos zs j hj] at e
  rw[<-e]
  exact List.getElem_mem hj
 intro hx
 obtain⟨j,hj,e⟩:=List.getElem_of_mem hx
 exact⟨j,hj,by rw[hget j hj,getElem!_pos zs j hj];exact e⟩
theorem compact_sort (r:List Int):Lib.compact (r.mergeSort λx y=>decide (x<=y))=r.foldl put []:=by
 have hs:(r.mergeSort λx y=>decide (x<=y)).Pairwise (·<=·):=by
  have:=List.pairwise_mergeSort (le:=λx y:Int=>decide (x<=y)) (λa b c h1 h2=>by
   have:=of_decide_eq_true h1
   have:=of_decide_eq_true h2
   exact decide_eq_true (by omega)) (λa b=>by
   by_cases h:a<=b
   ·rw[decide_eq_true h];rfl
   rw[decide_eq_true (by omega:b<=a),Bool.or_true]) r
  exact this.imp λh=>of_decide_eq_true h
 obtain⟨h1,h2⟩:=vH hs
 obtain⟨h3,h4⟩:=AhW r [] .nil
 refine sI h1 h3 λx=>?_
 rw[h2,h4,List.mem_mergeSort]
 constructor
 ·exact .inr
 rintro(h|h)
 ·cases h
 exact h
end Go.Proofs.YtjofpclmbjpgjaaGreat.Fl
namespace Go.Proofs
open Go.Shelf
def Tryz.lays189_ren:Go.Shelf.Ren:=⟨fun|189=>108|125=>142|257=>141|128=>169|129=>170|294=>160|295=>161|296=>162|297=>163|298=>164|299=>165|216=>166|300=>167|301=>168|328=>176|329=>177|330=>178|331=>179|332=>180|215=>181|343=>184|n=>n,fun|28=>90|3=>3|46=>136|0=>0|51=>82|53=>221|4=>4|183=>214|182=>213|131=>106|5=>5|9=>9|218=>228|222=>232|228=>238|229=>104|n=>n,fun|n=>n⟩
theorem Tryz.lays189:Go.Proofs.Lays.n189 Tryz.prog Tryz.lays189_ren:={
 mixed:=by kernel_rfl
 f125:=Tryz.func142.trans (congrArg some (by kernel_rfl))
 f128:=Tryz.func169.trans (congrArg some (by kernel_rfl))
 f129:=Tryz.func170.trans (congrArg some (by kernel_rfl))
 f189:=Tryz.func108.trans (congrArg some (by kernel_rfl))
 f215:=Tryz.func181.trans (congrArg some (by kernel_rfl))
 f216:=Tryz.func166.trans (congrArg some (by kernel_rfl))
 f257:=Tryz.func141.trans (congrArg some (by kernel_rfl))
 f294:=Tryz.func160.trans (congrArg some (by kernel_rfl))
 f295:=Tryz.func161.trans (congrArg some (by kernel_rfl))
 f296:=Tryz.func162.trans (congrArg some (by kernel_rfl))
 f297:=Tryz.func163.trans (congrArg some (by kernel_rfl))
 f298:=Tryz.func164.trans (congrArg some (by kernel_rfl))
 f299:=Tryz.func165.trans (congrArg some (by kernel_rfl))
 f300:=Tryz.func167.trans (congrArg some (by kernel_rfl))
 f301:=Tryz.func168.trans (congrArg some (by kernel_rfl))
 f328:=Tryz.func176.trans (congrArg some (by kernel_rfl))
 f329:=Tryz.func177.trans (congrArg some (by kernel_rfl))
 f330:=Tryz.func178.trans (congrArg some (by kernel_rfl))
 f331:=Tryz.func179.trans (congrArg some (by kernel_rfl))
 f332:=Tryz.func180.trans (congrArg some (by kernel_rfl))
 f343:=Tryz.func184.trans (congrArg some (by kernel_rfl))
 t0:=Tryz.underlying0
 a0:=Tryz.isAgg0
 z0:=Tryz.sizeOf0
 v0:=Tryz.zeroValue0
 t3:=Tryz.underlying3
 a3:=Tryz.isAgg3
 z3:=Tryz.sizeOf3
 v3:=Tryz.zeroValue3
 t4:=Tryz.underlying4
 a4:=Tryz.isAgg4
 z4:=Tryz.sizeOf4
 v4:=Tryz.zeroValue4
 t5:=Tryz.underlying5
 a5:=Tryz.isAgg5
 z5:=Tryz.sizeOf5
 v5:=Tryz.zeroValue5
 t9:=Tryz.underlying9
 a9:=Tryz.isAgg9
 z9:=Tryz.sizeOf9
 v9:=Tryz.zeroValue9
 t28:=Tryz.underlying90
 a28:=Tryz.isAgg90
 z28:=Tryz.sizeOf90
 v28:=Tryz.zeroValue90
 t46:=Tryz.underlying136
 a46:=Tryz.isAgg136
 z46:=Tryz.sizeOf136
 v46:=Tryz.zeroValue136
 t51:=Tryz.underlying82
 a51:=Tryz.isAgg82
 z51:=Tryz.sizeOf82
 v51:=Tryz.zeroValue82
 t53:=Tryz.underlying221
 a53:=Tryz.isAgg221
 z53:=Tryz.sizeOf221
 v53:=Tryz.zeroValue221
 t131:=Tryz.underlying106
 a131:=Tryz.isAgg106
 z131:=Tryz.sizeOf106
 v131:=Tryz.zeroValue106
 t182:=Tryz.underlying213
 a182:=Tryz.isAgg213
 z182:=Tryz.sizeOf213
 v182:=Tryz.zeroValue213
 t183:=Tryz.underlying214
 a183:=Tryz.isAgg214
 z183:=Tryz.sizeOf214
 v183:=Tryz.zeroValue214
 t218:=Tryz.underlying228
 a218:=Tryz.isAgg228
 z218:=Tryz.sizeOf228
 v218:=Tryz.zeroValue228
 t222:=Tryz.underlying232
 a222:=Tryz.isAgg232
 z222:=Tryz.sizeOf232
 v222:=Tryz.zeroValue232
 t228:=Tryz.underlying238
 a228:=Tryz.isAgg238
 z228:=Tryz.sizeOf238
 v228:=Tryz.zeroValue238
 t229:=Tryz.underlying104
 a229:=Tryz.isAgg104
 z229:=Tryz.sizeOf104
 v229:=Tryz.zeroValue104 }
open Go.Sort Go.RowKit in
theorem Tryz.slices_Sort_int (blk off cap:Nat) (zs:List Int) (w:World) (hH:Holds (Value.int .i64) w blk off zs.toArray) (hblk:blk<w.heap.size) (hsz:zs.length<4611686018427387904) :
 Calls Tryz.prog 108 #[.slice (some ⟨blk,off,none⟩) zs.length cap] w λe w' =>
  e=.returned (.tuple #[])/\∃ n os,w'=grow (putRow (Value.int .i64) (Sort.ahead w n) blk off (zs.mergeSort λx y=>decide (x<=y)).toArray) os:=Any.slices_Sort_int Tryz.lays189 blk off cap zs w hH hblk hsz
def Tryz.laysNm220_ren:Go.Shelf.Ren:=⟨fun|20=>109|n=>n,fun|22=>90|3=>3|4=>4|0=>0|n=>n,fun|n=>n⟩
theorem Tryz.laysNm220:Go.Proofs.Lays2.n20 Tryz.prog Tryz.laysNm220_ren:={
 mixed:=by kernel_rfl
 f20:=Tryz.func109.trans (congrArg some (by kernel_rfl))
 t0:=Tryz.underlying0
 a0:=Tryz.isAgg0
 z0:=Tryz.sizeOf0
 v0:=Tryz.zeroValue0
 t3:=Tryz.underlying3
 a3:=Tryz.isAgg3
 z3:=Tryz.sizeOf3
 v3:=Tryz.zeroValue3
 t4:=Tryz.underlying4
 a4:=Tryz.isAgg4
 z4:=Tryz.sizeOf4
 v4:=Tryz.zeroValue4
 t22:=Tryz.underlying90
 a22:=Tryz.isAgg90
 z22:=Tryz.sizeOf90
 v22:=Tryz.zeroValue90
 i3:=by kernel_rfl }
open Go.RowKit Go.Lib Go.Sort in
theorem Tryz.slices_Compact_int_arr (blk off cap:Nat) (d:Array Int) (w:World) (hH:Holds encI w blk off d) (hsz:d.size<=9223372036854775807) (hcap:d.size<=cap) :
 Calls Tryz.prog 109 #[.slice (some ⟨blk,off,none⟩) d.size cap] w λe w'=>e=.returned (.slice (some ⟨blk,off,none⟩) (compactUpTo d d.size).length cap)/\∃ q,w'=putRow encI (Sort.ahead w q) blk off (compactUpTo d d.size++List.replicate (d.size-(compactUpTo d d.size).length) 0).toArray:=Any.slices_Compact_int_arr Tryz.laysNm220 blk off cap d w hH hsz hcap
open Go.RowKit Go.Lib Go.Sort in
theorem Tryz.slices_Compact_int (blk off cap:Nat) (zs:List Int) (w:World) (hH:Holds (Value.int .i64) w blk off zs.toArray) (hsz:zs.length<=9223372036854775807) (hcap:zs.length<=cap) :
 Calls Tryz.prog 109 #[.slice (some ⟨blk,off,none⟩) zs.length cap] w λe w'=>e=.returned (.slice (some ⟨blk,off,none⟩) (Lib.compact zs).length cap)/\∃ q,w'=putRow (Value.int .i64) (Sort.ahead w q) blk off (Lib.compact zs++List.replicate (zs.length-(Lib.compact zs).length) 0).toArray:=Any.slices_Compact_int Tryz.laysNm220 blk off cap zs w hH hsz hcap
open Go.RowKit Go.Lib Go.Sort in
theorem Tryz.slices_Compact_int_empty (a:Option Addr) (cap:Nat) (w:World) :
 Calls Tryz.prog 109 #[.slice a 0 cap] w λe w'=>e=.returned (.slice a 0 cap)/\w'=w:=Any.slices_Compact_int_empty Tryz.laysNm220 a cap w
open Go.RowKit Go.Sort in
theorem Tryz.slices_Sort_int_none (p:Option Addr) (cap:Nat) (w:World) :
 Calls Tryz.prog 108 #[.slice p 0 cap] w λe w'=>e=.returned (.tuple #[])/\w'=w:=Any.slices_Sort_int_none Tryz.lays189 p cap w
end Go.Proofs
namespace Go.Proofs.YtjofpclmbjpgjaaGreat
open Lib (hid)
open Go.RowKit
theorem nS (L:List Int):aF.all L=L.map (Value.int .i64):=by
 induction L with
 | nil=>rfl
 | cons x L ih=>rw[aF.all_cons,ih];rfl
theorem AcV (base:Nat) (R:List Int) (v:Value) (w:World) (h:w.ownsRow base 3 aF.m v R.length (aF.all R)) (hl:R.length<=1000000) :
 Calls Tryz.prog 108 #[v] w λe w'=>e=.returned (.tuple #[])/\w'.ownsRow base 3 aF.m v (R.mergeSort λx y=>decide (x<=y)).length (aF.all (R.mergeSort λx y=>decide (x<=y)))/\w.grownBy w' v.ownBlock:=by
 --[
 have hl2:(R.mergeSort λx y=>decide (x<=y)).length=R.length:=List.length_mergeSort R
 have h':w.ownsRow base 3 1 v R.length (R.map (Value.int .i64)):=by rw[<-nS];exact h
 rcases h'.2 with ⟨rfl,h0⟩|⟨g,cap,cur,rfl,hbase,hb,h1,h2,h3,h4⟩
 ·obtain rfl:R=[]:=AsR h0
  refine(Tryz.slices_Sort_int_none none 0 w).mono ?_
  rintro e w' ⟨rfl,rfl⟩
  exact⟨rfl,by rw[List.mergeSort_nil];exact h,World.grownBy.refl _ _⟩
 ·have hH:Go.Sort.Holds (Value.int .i64) w g 0 R.toArray:=holds_of_blockI hb (by simpa using h4)
  refine(Tryz.slices_Sort_int g 0 cap R w hH (ArL hb).1 (by omega)).mono ?_
  rintro e w' ⟨rfl,nn,os,rfl⟩
  have hro:=ownsRow_sortedI (n:=nn) (os:=os) (ts:=R.mergeSort λx y=>decide (x<=y)) hl2 hbase hb h1 h2 h3
  exact⟨rfl,by rw[hl2,nS];exact hro,grownBy_sortedI _⟩
 --]
theorem AcW (base:Nat) (R:List Int) (v:Value) (w:World) (h:w.ownsRow base 3 aF.m v R.length (aF.all R)) (hl:R.length<=1000000) :
 Calls Tryz.prog 109 #[v] w λe w'=>∃ v',e=.returned v'/\w'.ownsRow base 3 aF.m v' (Lib.compact R).length (aF.all (Lib.compact R))/\w.grownBy w' v.ownBlock/\v'.ownBlock=v.ownBlock:=by
 --[
 have h':w.ownsRow base 3 1 v R.length (R.map (Value.int .i64)):=by rw[<-nS];exact h
 rcases h'.2 with ⟨rfl,h0⟩|⟨g,cap,cur,rfl,hbase,hb,h1,h2,h3,h4⟩
 ·obtain rfl:R=[]:=AsR h0
  refine(Tryz.slices_Compact_int_empty none 0 w).mono ?_
  rintro e w' ⟨rfl,rfl⟩
  exact⟨_,rfl,h,World.grownBy.refl _ _,rfl⟩
 ·have hH:Go.Sort.Holds (Value.int .i64) w g 0 R.toArray:=holds_of_blockI hb (by simpa using h4)
  refine(Tryz.slices_Compact_int g 0 cap R w hH (by omega) h1).mono ?_
  rintro e w' ⟨rfl,q,rfl⟩
  have hcl:=Lib.compact_length_le R
  have hts:(Lib.compact R++List.replicate (R.length-(Lib.compact R).length) 0).length=R.length:=by
   rw[ArV,List.length_replicate];omega
  have eg:∀ X:World,Go.Sort.grow X #[]=X:=λX=>by simp[Go.Sort.grow]
  have hro:=ownsRow_sortedI (n:=q) (os:=#[]) (ts:=Lib.compact R++List.replicate (R.length-(Lib.compact R).length) 0) hts hbase hb h1 h2 h3
  have hgr:=grownBy_sortedI (w:=w) (g:=g) (n:=q) (os:=#[]) (Lib.compact R++List.replicate (R.length-(Lib.compact R).length) 0).toArray
  rw[eg] at hro hgr
  refine⟨_,rfl,?_,hgr,rfl⟩
  rw[nS]
  rw[List.map_append] at hro
  refine⟨by rw[AsH];exact(Nat.mul_one _).symm,?_⟩
  rcases hro.2 with ⟨h5,-⟩|⟨g',cap',cur',h5,h6,h7,h8,h9,h10,h11⟩
  ·cases h5
  cases h5
  refine .inr ⟨g,cap,cur',rfl,h6,h7,by omega,h9,h10,?_⟩
  have:=congrArg (List.take ((Lib.compact R).length*1)) h11
  rw[List.take_take,Nat.min_eq_left (Nat.mul_le_mul_right _ hcl)] at this
  refine this.trans ?_
  rw[List.take_append_of_le_length (by rw[AsH];omega),AsT (by rw[AsH];omega)]
 --]
theorem lM {α:Type} (E:Lies α) {P:Program} {w:World} {ops:Array Oper} {rest:List Oper} {o:Oper} {a:Act} {Q:Exit->Act->World->Prop} (hw:Region.wanted o (yielded ops a.tmps)=true) (s x:Operand) (t:TypeId)
 (ho:o.op=.call { callee:=.builtin .append,args:=#[s,x],argTypes:=#[t,t] })
 (base:Nat) (e:TypeId) (i:TypeInfo) (z:Value) (bytes:Nat) (ht:P.underlying t=some (.slice e)) (hi:P.info? e=some i) (hz:i.zero=some z)
 (hsize:i.size=E.m) (hby:i.bytes=bytes) (hzs:z.cells.size=E.m)
 (v:Value) (n:Nat) (xs:List Value) (hs:a.eval s=v) (hown:w.ownsRow base e E.m v n xs)
 (A:Option Addr) (m c:Nat) (L:List α) (hx:a.eval x=.slice A m c) (hL:L.length=m) (hI:E.Row w A L) (hn2:n+m<=1000000000) (hbytes:(n+m)*bytes<=140737488355328) (hbase:base<=w.heap.size)
 (h:∀ v' w',w'.ownsRow base e E.m v' (n+m) (xs++E.all L)->w.grownBy w' v.ownBlock->(∀ k,v'.ownBlock=some k->v.ownBlock=some k∨w.heap.size<=k)->wpList P ops Q rest (a.put o.dst v') w'):wpList P ops Q (o :: rest) a w:=by
 subst hL
 rcases Nat.eq_zero_or_pos L.length with h0|h0
 ·obtain rfl:L=[]:=AsR h0
  have hrun:=bV (P:=P) (w:=w) base t o.type e i E.m ht hi v n xs hown A c
  refine BigFrame.wpList_want hw λ_ hK=>?_
  unfold Oper.wp
  simp[execOp,ho,resolve,invoke,builtin,hs,hx,hrun,Result.andThen]
  exact hK _ _ (h v w (by rw[show E.all []=[] from rfl,AsM];exact hown) (World.grownBy.refl w _) λk hk=>.inl hk)
 exact aG E w hw s x t ho base e i z bytes ht hi hz hsize hby hzs v n xs hs hown A c L.length L rfl h0 hx hI hn2 hbytes hbase λg' cap' w' h1 h2 h3=>h _ w' h1 h2 λk hk=>by
  cases hk
  rcases h3 with h3|h3
  ·exact .inl h3
  exact .inr (by rw[h3];exact ArR _)
end Go.Proofs.YtjofpclmbjpgjaaGreat
