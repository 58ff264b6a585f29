/-
 Texts of this claim, merged: ClRef.
-/
import Derived.Test.YtncphjodaklleaaGreatMg12
import Derived.Test.YtncphjodaklleaaGreatMg15
import Derived.Test.YtncphjodaklleaaGreatMg16
import Derived.Test.YtncphjodaklleaaGreatMg22
import Derived.Test.YtncphjodaklleaaGreatMg24
import Derived.Deep.RegionHeld3
import Derived.Deep.RegionWith
set_option maxHeartbeats 16000000
set_option maxRecDepth 100000
namespace Go.Proofs.YtncphjodaklleaaGreat
open Lib (hid)
open Go.RowKit
theorem Cl.share_drop {L:List Wk.Stp} {j:Nat} {x:Wk.Stp} (h:L[j]? = some x) (M:List Wk.Stp):Cl.share (L.drop j) M=(Wk.within M x.s || Cl.share (L.drop (j+1)) M):=by
 obtain ⟨hj,rfl⟩:=List.getElem?_eq_some_iff.1 h
 rw [List.drop_eq_getElem_cons hj]
 unfold Cl.share
 rw [List.any_cons]
theorem rxMeet_any (A:Option Addr) (c:Nat) (L:List Wk.Stp) (A':Option Addr) (c':Nat) (M:List Wk.Stp) (w:World) (h:LStp.Row w A L) (hl:L.length≤1000000) (h':LStp.Row w A' M) (hl':M.length≤1000000) :
 Calls Tryz.prog 66 #[.slice A L.length c,.slice A' M.length c'] w (OneIs (.bool (Cl.share L M)) w):=by
 --[
 have B0:=hid (Below.refl w.heap.size w)
 have HR:=hid h
 have CP:=hid (fun W (hb:Below w.heap.size w W) k=>rwWithin_any A' c' M k W (h'.below rfl hb) hl')
 generalize hq:Cl.share L M=q
 have HQ:=hid hq
 clear h hq h' hl'
 go_enter Tryz.func66,Tryz.ntmps66
 go_wp2_with fail
 go_loopw [5] (fun v w'=>∃ j:Nat,j≤L.length∧v=.int .i64 j∧Cl.share (L.drop j) M=q∧Below w.heap.size w w') (fun v _=>L.length - (intOf v).toNat)
 case atStart=>exact ⟨0,Nat.zero_le _,rfl,by rw[List.drop_zero];exact HQ.out,B0.out⟩
 case round =>
  obtain ⟨j,hj,rfl,hp,hb⟩:=hrel
  by_cases hlt:j<L.length
  ·have hy:=List.getElem?_eq_getElem hlt
   have HB:=hid hb
   obtain ⟨b,o,rfl,hbb,on⟩:=(HR.out.below rfl hb).at hlt
   generalize L[j]=x at hy on
   obtain ⟨c0,c1,c2⟩:=stp_on on
   rw [show j * LStp.m=j * 3 from rfl] at c0 c1 c2
   rw [Cl.share_drop hy] at hp
   have d1:decide ((j:Int)<(L.length:Int))=true:=dec_t (by omega)
   have i0:(0:Int)≤(j:Int):=Int.natCast_nonneg j
   have i1:(j:Int)<(L.length:Int):=by omega
   have C:=hid (CP.out _ hb x.s)
   generalize Wk.within M x.s=z at C hp
   have HP:=hid hp
   clear hb hy on hp
   go_wp2_with fail
   refine C.out.mono ?_;rintro e w1 ⟨rfl,rfl⟩
   cases z with
   | true =>
     go_wp2_with fail
     go_ret
     exact ⟨by rw[← HP.out] <;> rfl,HB.out⟩
   | false =>
     have HP2:=hid (show Cl.share (L.drop (j+1)) M=q from HP.out)
     go_wp2_with fail
     go_roundw
     case rel=>exact ⟨j+1,by omega,by go_num,HP2.out,HB.out⟩
     case measure=>simp [intOf];omega
  ·obtain rfl:j=L.length:=by omega
   have d1:decide ((L.length:Int)<(L.length:Int))=false:=dec_f (by omega)
   rw [List.drop_length] at hp
   have HP:=hid (show false=q from hp)
   have HB:=hid hb
   clear hp hb
   go_wp2_with fail
   go_ret
   exact ⟨by rw[← HP.out] <;> rfl,HB.out⟩
 --]
theorem two_laid (w:World) (a b:Obj):((w.alloc a).alloc b).heap[w.heap.size]? = some a∧((w.alloc a).alloc b).heap[w.heap.size+1]? = some b∧Below w.heap.size w ((w.alloc a).alloc b):=by
 have s1:(w.alloc a).heap.size=w.heap.size+1:=by simp
 refine ⟨?_,?_,((Below.refl _ _).alloc (Nat.le_refl _) _).alloc (by omega) _⟩
 ·rw[heap_alloc_old _ _ (by omega)];exact heap_alloc_new _ _
 ·rw[← s1];exact heap_alloc_new _ _
theorem Cl.meets_eq (r s:Rt.Route):Cl.meets r s=((decide (r.exit<0) || (r.exit != s.entry)) && (Cl.share r.lap s.steps || Cl.share r.lap s.lap)):=by
 unfold Cl.meets Cl.leads
 congr 1
 by_cases h:r.exit<0
 ·rw[dec_t h,dec_f (p:=0≤r.exit) (by omega)];rfl
 ·rw[dec_f h,dec_t (p:=0≤r.exit) (by omega)];rfl
theorem Cl.bars_eq (r s:Rt.Route):Cl.bars r s=((r.entry == s.entry) || Cl.share r.steps s.steps || Cl.meets r s || Cl.meets s r || Dm.opposed r.pts s.pts || Dm.opposed s.pts r.pts):=by
 unfold Cl.bars Cl.opp
 generalize (r.entry == s.entry)=a
 generalize Cl.share r.steps s.steps=b
 generalize Cl.meets r s=c
 generalize Cl.meets s r=d
 generalize Dm.opposed r.pts s.pts=e
 generalize Dm.opposed s.pts r.pts=f
 revert a b c d e f
 decide
theorem rxOver_any (m m':RouteM) (w:World) (h:PartsIn w m) (h':PartsIn w m') (hl:m.r.lap.length≤1000000) (hs':m'.r.steps.length≤1000000) (hl':m'.r.lap.length≤1000000) :
 Calls Tryz.prog 67 #[rtV m,rtV m'] w (OneIs (.bool (Cl.meets m.r m'.r)) w):=by
 --[
 obtain ⟨R1,R2,XX⟩:=two_laid w (rtO m) (rtO m')
 have X:=hid XX
 have C1:=hid (fun W (hW:Below ((w.alloc (rtO m)).alloc (rtO m')).heap.size ((w.alloc (rtO m)).alloc (rtO m')) W)=>rxMeet_any m.A2 m.c2 m.r.lap m'.A1 m'.c1 m'.r.steps W ((h.below XX).p2.below rfl hW) hl ((h'.below XX).p1.below rfl hW) hs')
 have C2:=hid (fun W (hW:Below ((w.alloc (rtO m)).alloc (rtO m')).heap.size ((w.alloc (rtO m)).alloc (rtO m')) W)=>rxMeet_any m.A2 m.c2 m.r.lap m'.A2 m'.c2 m'.r.lap W ((h.below XX).p2.below rfl hW) hl ((h'.below XX).p2.below rfl hW) hl')
 rw [Cl.meets_eq]
 generalize hz0:decide (m.r.exit<0)=z0
 generalize hzx:(m.r.exit != m'.r.entry)=zx
 generalize Cl.share m.r.lap m'.r.steps=z1 at C1 ⊢
 generalize Cl.share m.r.lap m'.r.lap=z2 at C2 ⊢
 clear h h' XX
 go_enter Tryz.func67,Tryz.ntmps67
 go_upto_region 1 with fail
 generalize (w.alloc (rtO m)).alloc (rtO m')=w2 at X R1 R2 C1 C2 ⊢
 generalize w.heap.size+1=g2 at R2 ⊢
 generalize hg:w.heap.size=g at R1 ⊢
 obtain ⟨⟨p0,p1,p2,p3,p4,p5,p6,p7,p8⟩,-,gx⟩:=row9 R1
 obtain ⟨⟨q0,q1,q2,q3,q4,q5,q6,q7,q8⟩,-,gy⟩:=row9 R2
 have K:=hid (fun W (hW:Below w2.heap.size w2 W)=>And.intro (And.intro ((hW.cell (p:=⟨g,3,none⟩) gx).trans p3) ((hW.cell (p:=⟨g2,2,none⟩) gy).trans q2)) ((hW.cell (p:=⟨g2,3,none⟩) gy).trans q3))
 have X2:=hid (Below.refl w2.heap.size w2)
 clear hg R1 R2 hl hs' hl' p2 p4 p5 p6 p7 p8 q1 q4 q5 q6 q7 q8 gx gy
 cases z0 with
 | true =>
   go_wp2_with fail
   refine (C1.out _ X2.out).mono ?_;rintro e w4 ⟨rfl,hb4⟩
   have B4:=hid hb4
   have F4:=hid (X.out.trans (hb4.mono X.out.size))
   clear hb4 p0 p1 p3 q0 q2 q3 C1 hz0
   obtain ⟨⟨k3,k2⟩,k4⟩:=K.out _ B4.out
   cases z1 with
   | true =>
     go_wp2_with fail
     go_ret
     exact ⟨rfl,F4.out⟩
   | false =>
     go_wp2_with fail
     refine (C2.out _ B4.out).mono ?_;rintro e w5 ⟨rfl,hb5⟩
     have F5:=hid (F4.out.trans (hb5.mono F4.out.size))
     clear hb5
     go_wp2_with fail
     go_ret
     exact ⟨rfl,F5.out⟩
 | false =>
   cases zx with
   | false =>
     go_wp2_with fail
     go_ret
     exact ⟨rfl,X.out⟩
   | true =>
     go_wp2_with fail
     refine (C1.out _ X2.out).mono ?_;rintro e w4 ⟨rfl,hb4⟩
     have B4:=hid hb4
     have F4:=hid (X.out.trans (hb4.mono X.out.size))
     clear hb4 p0 p1 p3 q0 q2 q3 C1 hz0 hzx
     obtain ⟨⟨k3,k2⟩,k4⟩:=K.out _ B4.out
     cases z1 with
     | true =>
       go_wp2_with fail
       go_ret
       exact ⟨rfl,F4.out⟩
     | false =>
       go_wp2_with fail
       refine (C2.out _ B4.out).mono ?_;rintro e w5 ⟨rfl,hb5⟩
       have F5:=hid (F4.out.trans (hb5.mono F4.out.size))
       clear hb5
       go_wp2_with fail
       go_ret
       exact ⟨rfl,F5.out⟩
 --]
theorem rxBars_any (m m':RouteM) (w:World) (h:PartsIn w m) (h':PartsIn w m') (ht:Cl.Tiny m.r) (ht':Cl.Tiny m'.r) :
 Calls Tryz.prog 39 #[rtV m,rtV m'] w (OneIs (.bool (Cl.bars m.r m'.r)) w):=by
 --[
 obtain ⟨hs,hl,hp⟩:=ht
 obtain ⟨hs',hl',hp'⟩:=ht'
 obtain ⟨R1,R2,XX⟩:=two_laid w (rtO m) (rtO m')
 have X:=hid XX
 have P:=hid (h.below XX)
 have P':=hid (h'.below XX)
 have C1:=hid (fun W (hW:Below ((w.alloc (rtO m)).alloc (rtO m')).heap.size ((w.alloc (rtO m)).alloc (rtO m')) W)=>rxMeet_any m.A1 m.c1 m.r.steps m'.A1 m'.c1 m'.r.steps W (P.out.p1.below rfl hW) hs (P'.out.p1.below rfl hW) hs')
 have C2:=hid (fun W (hW:Below ((w.alloc (rtO m)).alloc (rtO m')).heap.size ((w.alloc (rtO m)).alloc (rtO m')) W)=>rxOver_any m m' W (P.out.below hW) (P'.out.below hW) hl hs' hl')
 have C3:=hid (fun W (hW:Below ((w.alloc (rtO m)).alloc (rtO m')).heap.size ((w.alloc (rtO m)).alloc (rtO m')) W)=>rxOver_any m' m W (P'.out.below hW) (P.out.below hW) hl' hs hl)
 have C4:=hid (fun W (hW:Below ((w.alloc (rtO m)).alloc (rtO m')).heap.size ((w.alloc (rtO m)).alloc (rtO m')) W)=>rdOpposed_any m.A3 m.c3 m.r.pts m'.A3 m'.c3 m'.r.pts W (P.out.p3.below rfl hW) hp (P'.out.p3.below rfl hW) hp')
 have C5:=hid (fun W (hW:Below ((w.alloc (rtO m)).alloc (rtO m')).heap.size ((w.alloc (rtO m)).alloc (rtO m')) W)=>rdOpposed_any m'.A3 m'.c3 m'.r.pts m.A3 m.c3 m.r.pts W (P'.out.p3.below rfl hW) hp' (P.out.p3.below rfl hW) hp)
 rw [Cl.bars_eq]
 generalize hz:(m.r.entry == m'.r.entry)=z0
 have HZ:=hid hz
 generalize Cl.share m.r.steps m'.r.steps=z1 at C1 ⊢
 generalize Cl.meets m.r m'.r=z2 at C2 ⊢
 generalize Cl.meets m'.r m.r=z3 at C3 ⊢
 generalize Dm.opposed m.r.pts m'.r.pts=z4 at C4 ⊢
 generalize Dm.opposed m'.r.pts m.r.pts=z5 at C5 ⊢
 clear h h' XX hz
 go_enter Tryz.func39,Tryz.ntmps39
 go_upto_region 1 with fail
 generalize (w.alloc (rtO m)).alloc (rtO m')=w2 at X P P' R1 R2 C1 C2 C3 C4 C5 ⊢
 generalize w.heap.size+1=g2 at R2 ⊢
 generalize hg:w.heap.size=g at R1 ⊢
 have X2:=hid (Below.refl w2.heap.size w2)
 have gx:=(row9 R1).2.2
 have gy:=(row9 R2).2.2
 have K:=hid (fun W (hW:Below w2.heap.size w2 W)=>And.intro (row9 ((hW.block _ gx).trans R1)).1 (row9 ((hW.block _ gy).trans R2)).1)
 clear hg R1 R2 hl hs' hl' hs hp hp' gx gy
 obtain ⟨⟨p0,p1,p2,p3,p4,p5,p6,p7,p8⟩,q0,q1,q2,q3,q4,q5,q6,q7,q8⟩:=K.out _ X2.out
 have hz:=HZ.out
 clear HZ
 cases z0 with
 | true =>
   go_wp2_with fail
   go_ret
   exact ⟨rfl,X.out⟩
 | false =>
   go_wp2_with fail
   refine (C1.out _ X2.out).mono ?_;rintro e w3 ⟨rfl,hb⟩
   have B1:=hid (hb)
   have F1:=hid (X.out.trans (hb.mono X.out.size))
   clear hb p0 p1 p2 p3 p4 p5 p6 p7 p8 q0 q1 q2 q3 q4 q5 q6 q7 q8 hz C1
   cases z1 with
   | true =>
     go_wp2_with fail
     go_ret
     exact ⟨rfl,F1.out⟩
   | false =>
     obtain ⟨⟨p0,p1,p2,p3,p4,p5,p6,p7,p8⟩,q0,q1,q2,q3,q4,q5,q6,q7,q8⟩:=K.out _ B1.out
     go_wp2_with fail
     refine (C2.out _ B1.out).mono ?_;rintro e w4 ⟨rfl,hb⟩
     have B2:=hid (B1.out.trans (hb.mono B1.out.size))
     have F2:=hid (F1.out.trans (hb.mono F1.out.size))
     clear hb p0 p1 p2 p3 p4 p5 p6 p7 p8 q0 q1 q2 q3 q4 q5 q6 q7 q8 C2 B1 F1
     cases z2 with
     | true =>
       go_wp2_with fail
       go_ret
       exact ⟨rfl,F2.out⟩
     | false =>
       obtain ⟨⟨p0,p1,p2,p3,p4,p5,p6,p7,p8⟩,q0,q1,q2,q3,q4,q5,q6,q7,q8⟩:=K.out _ B2.out
       go_wp2_with fail
       refine (C3.out _ B2.out).mono ?_;rintro e w5 ⟨rfl,hb⟩
       have B3:=hid (B2.out.trans (hb.mono B2.out.size))
       have F3:=hid (F2.out.trans (hb.mono F2.out.size))
       clear hb p0 p1 p2 p3 p4 p5 p6 p7 p8 q0 q1 q2 q3 q4 q5 q6 q7 q8 C3 B2 F2
       cases z3 with
       | true =>
         go_wp2_with fail
         go_ret
         exact ⟨rfl,F3.out⟩
       | false =>
         obtain ⟨⟨p0,p1,p2,p3,p4,p5,p6,p7,p8⟩,q0,q1,q2,q3,q4,q5,q6,q7,q8⟩:=K.out _ B3.out
         go_wp2_with fail
         refine (C4.out _ B3.out).mono ?_;rintro e w6 ⟨rfl,hb⟩
         have B4:=hid (B3.out.trans (hb.mono B3.out.size))
         have F4:=hid (F3.out.trans (hb.mono F3.out.size))
         clear hb p0 p1 p2 p3 p4 p5 p6 p7 p8 q0 q1 q2 q3 q4 q5 q6 q7 q8 C4 B3 F3
         cases z4 with
         | true =>
           go_wp2_with fail
           go_ret
           exact ⟨rfl,F4.out⟩
         | false =>
           obtain ⟨⟨p0,p1,p2,p3,p4,p5,p6,p7,p8⟩,q0,q1,q2,q3,q4,q5,q6,q7,q8⟩:=K.out _ B4.out
           go_wp2_with fail
           refine (C5.out _ B4.out).mono ?_;rintro e w7 ⟨rfl,hb⟩
           have B5:=hid (B4.out.trans (hb.mono B4.out.size))
           have F5:=hid (F4.out.trans (hb.mono F4.out.size))
           clear hb p0 p1 p2 p3 p4 p5 p6 p7 p8 q0 q1 q2 q3 q4 q5 q6 q7 q8 C5 B4 F4
           go_wp2_with fail
           go_ret
           exact ⟨rfl,F5.out⟩
 --]
end Go.Proofs.YtncphjodaklleaaGreat
