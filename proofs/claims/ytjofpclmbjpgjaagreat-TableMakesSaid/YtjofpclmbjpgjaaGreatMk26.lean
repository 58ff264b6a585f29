/- Lemmas. -/
import Derived.Test.YtjofpclmbjpgjaaGreatMk25
set_option maxHeartbeats 16000000
set_option maxRecDepth 100000
namespace Go.Proofs.YtjofpclmbjpgjaaGreat
open Lib (hid)
open Go.RowKit
theorem Cl.share_drop {L:List Wk.Stp} {j:Nat} {x:Wk.Stp} (h:L[j]?=some x) (M:List Wk.Stp):Cl.share (L.drop j) M=(Wk.within M x.s || Cl.share (L.drop (j+1)) M):=by
 obtain⟨hj,rfl⟩:=ArM h
 rw[List.drop_eq_getElem_cons hj]
 unfold Cl.share
 rw[List.any_cons]
theorem jF (A:Option Addr) (c:Nat) (L:List Wk.Stp) (A':Option Addr) (c':Nat) (M:List Wk.Stp) (w:World) (h:aE.Row w A L) (hl:L.length<=1000000) (h':aE.Row w A' M) (hl':M.length<=1000000) :
 Calls Tryz.prog 77 #[.slice A L.length c,.slice A' M.length c'] w (OneIs (.bool (Cl.share L M)) w):=by
 --[
 have B0:=hid (AtB w)
 have HR:=hid h
 have CP:=hid (λW (hb:Below w.heap.size w W) k=>bF A' c' M k W (h'.below rfl hb) hl')
 generalize hq:Cl.share L M=q
 have HQ:=hid hq
 clear h hq h' hl'
 go_enter Tryz.func77,Tryz.ntmps77
 go_wp2_with fail
 go_loopw [5] (λv w'=>∃ j:Nat,j<=L.length/\v=.int .i64 j/\Cl.share (L.drop j) M=q/\Below w.heap.size w w') (λv _=>L.length-(intOf v).toNat)
 case atStart=>exact⟨0,AsD _,rfl,by rw[List.drop_zero];exact HQ.out,B0.out⟩
 case round =>
  obtain⟨j,hj,rfl,hp,hb⟩:=hrel
  by_cases hlt:j<L.length
  ·have hy:=ArN hlt
   have HB:=hid hb
   obtain⟨b,o,rfl,hbb,on⟩:=(HR.out.below rfl hb).at hlt
   generalize L[j]=x at hy on
   obtain⟨c0,c1,c2⟩:=bL on
   rw[show j*aE.m=j*3 from rfl] at c0 c1 c2
   rw[Cl.share_drop hy] at hp
   obtain⟨d1,i0,i1⟩:=ArK (show j<L.length by omega)
   have C:=hid (CP.out _ hb x.s)
   generalize Wk.within M x.s=z at C hp
   have HP:=hid hp
   clear hb hy on hp
   go_wp2_with fail
   refine C.out.mono ?_;rintro e w1 ⟨rfl,rfl⟩
   cases z with
   | true =>
     go_wp2
     go_ret
     exact⟨by rw[<-HP.out] <;> rfl,HB.out⟩
   | false =>
     have HP2:=hid (show Cl.share (L.drop (j+1)) M=q from HP.out)
     go_wp2
     go_roundw
     case rel=>exact⟨j+1,by omega,by go_num,HP2.out,HB.out⟩
     case measure=>simp[intOf];omega
  obtain rfl:j=L.length:=by omega
  have d1:decide ((L.length:Int)<(L.length:Int))=false:=aB (by omega)
  rw[List.drop_length] at hp
  have HP:=hid (show false=q from hp)
  have HB:=hid hb
  clear hp hb
  go_wp2
  go_ret
  exact⟨by rw[<-HP.out] <;> rfl,HB.out⟩
 --]
theorem eN (w:World) (a b:Obj):((w.alloc a).alloc b).heap[w.heap.size]?=some a/\((w.alloc a).alloc b).heap[w.heap.size+1]?=some b/\Below w.heap.size w ((w.alloc a).alloc b):=by
 have s1:(w.alloc a).heap.size=w.heap.size+1:=by simp
 refine⟨?_,?_,((Below.refl _ _).alloc (ArR _) _).alloc (by omega) _⟩
 ·rw[heap_alloc_old _ _ (by omega)];exact AsW _ _
 rw[<-s1];exact AsW _ _
theorem Cl.meets_eq (r s:Rt.Route):Cl.meets r s=((decide (r.exit<0) || (r.exit != s.entry)) && (Cl.share r.lap s.steps || Cl.share r.lap s.lap)):=by
 unfold Cl.meets Cl.leads
 congr 1
 by_cases h:r.exit<0
 ·rw[aC h,aB (p:=0<=r.exit) (by omega)];rfl
 rw[aB h,aC (p:=0<=r.exit) (by omega)];rfl
theorem Cl.bars_eq (r s:Rt.Route):Cl.bars r s=((r.entry == s.entry) || Cl.share r.steps s.steps || Cl.meets r s || Cl.meets s r || Dm.opposed r.pts s.pts || Dm.opposed s.pts r.pts):=by
 unfold Cl.bars Cl.opp
 generalize (r.entry == s.entry)=a
 generalize Cl.share r.steps s.steps=b
 generalize Cl.meets r s=c
 generalize Cl.meets s r=d
 generalize Dm.opposed r.pts s.pts=e
 generalize Dm.opposed s.pts r.pts=f
 revert a b c d e f
 decide
theorem pP (m m':RouteM) (w:World) (h:PartsIn w m) (h':PartsIn w m') (hl:m.r.lap.length<=1000000) (hs':m'.r.steps.length<=1000000) (hl':m'.r.lap.length<=1000000) :
 Calls Tryz.prog 78 #[rtV m,rtV m'] w (OneIs (.bool (Cl.meets m.r m'.r)) w):=by
 --[
 obtain⟨R1,R2,XX⟩:=eN w (rtO m) (rtO m')
 have X:=hid XX
 have C1:=hid (λW (hW:Below ((w.alloc (rtO m)).alloc (rtO m')).heap.size ((w.alloc (rtO m)).alloc (rtO m')) W)=>jF m.A2 m.c2 m.r.lap m'.A1 m'.c1 m'.r.steps W ((h.below XX).p2.below rfl hW) hl ((h'.below XX).p1.below rfl hW) hs')
 have C2:=hid (λW (hW:Below ((w.alloc (rtO m)).alloc (rtO m')).heap.size ((w.alloc (rtO m)).alloc (rtO m')) W)=>jF m.A2 m.c2 m.r.lap m'.A2 m'.c2 m'.r.lap W ((h.below XX).p2.below rfl hW) hl ((h'.below XX).p2.below rfl hW) hl')
 rw[Cl.meets_eq]
 generalize hz0:decide (m.r.exit<0)=z0
 generalize hzx:(m.r.exit != m'.r.entry)=zx
 generalize Cl.share m.r.lap m'.r.steps=z1 at C1 ⊢
 generalize Cl.share m.r.lap m'.r.lap=z2 at C2 ⊢
 clear h h' XX
 go_enter Tryz.func78,Tryz.ntmps78
 go_upto_region 1 with fail
 generalize (w.alloc (rtO m)).alloc (rtO m')=w2 at X R1 R2 C1 C2 ⊢
 generalize w.heap.size+1=g2 at R2 ⊢
 generalize hg:w.heap.size=g at R1 ⊢
 obtain⟨⟨p0,p1,p2,p3,p4,p5,p6,p7,p8⟩,-,gx⟩:=row9 R1
 obtain⟨⟨q0,q1,q2,q3,q4,q5,q6,q7,q8⟩,-,gy⟩:=row9 R2
 have K:=hid (λW (hW:Below w2.heap.size w2 W)=>AsG (AsG ((hW.cell (p:=⟨g,3,none⟩) gx).trans p3) ((hW.cell (p:=⟨g2,2,none⟩) gy).trans q2)) ((hW.cell (p:=⟨g2,3,none⟩) gy).trans q3))
 have X2:=hid (AtB w2)
 clear hg R1 R2 hl hs' hl' p2 p4 p5 p6 p7 p8 q1 q4 q5 q6 q7 q8 gx gy
 cases z0 with
 | true =>
   go_wp2_with fail
   refine(C1.out _ X2.out).mono ?_;rintro e w4 ⟨rfl,hb4⟩
   have B4:=hid hb4
   have F4:=hid (X.out.trans (hb4.mono X.out.size))
   clear hb4 p0 p1 p3 q0 q2 q3 C1 hz0
   obtain⟨⟨k3,k2⟩,k4⟩:=K.out _ B4.out
   cases z1 with
   | true =>
     go_wp2
     go_ret
     exact⟨rfl,F4.out⟩
   | false =>
     go_wp2_with fail
     refine(C2.out _ B4.out).mono ?_;rintro e w5 ⟨rfl,hb5⟩
     have F5:=hid (F4.out.trans (hb5.mono F4.out.size))
     clear hb5
     go_wp2
     go_ret
     exact⟨rfl,F5.out⟩
 | false =>
   cases zx with
   | false =>
     go_wp2
     go_ret
     exact⟨rfl,X.out⟩
   | true =>
     go_wp2_with fail
     refine(C1.out _ X2.out).mono ?_;rintro e w4 ⟨rfl,hb4⟩
     have B4:=hid hb4
     have F4:=hid (X.out.trans (hb4.mono X.out.size))
     clear hb4 p0 p1 p3 q0 q2 q3 C1 hz0 hzx
     obtain⟨⟨k3,k2⟩,k4⟩:=K.out _ B4.out
     cases z1 with
     | true =>
       go_wp2
       go_ret
       exact⟨rfl,F4.out⟩
     | false =>
       go_wp2_with fail
       refine(C2.out _ B4.out).mono ?_;rintro e w5 ⟨rfl,hb5⟩
       have F5:=hid (F4.out.trans (hb5.mono F4.out.size))
       clear hb5
       go_wp2
       go_ret
       exact⟨rfl,F5.out⟩
 --]
theorem AcC (m m':RouteM) (w:World) (h:PartsIn w m) (h':PartsIn w m') (ht:Cl.Tiny m.r) (ht':Cl.Tiny m'.r) :
 Calls Tryz.prog 38 #[rtV m,rtV m'] w (OneIs (.bool (Cl.bars m.r m'.r)) w):=by
 --[
 obtain⟨hs,hl,hp⟩:=ht
 obtain⟨hs',hl',hp'⟩:=ht'
 obtain⟨R1,R2,XX⟩:=eN w (rtO m) (rtO m')
 have X:=hid XX
 have P:=hid (h.below XX)
 have P':=hid (h'.below XX)
 have C1:=hid (λW (hW:Below ((w.alloc (rtO m)).alloc (rtO m')).heap.size ((w.alloc (rtO m)).alloc (rtO m')) W)=>jF m.A1 m.c1 m.r.steps m'.A1 m'.c1 m'.r.steps W (P.out.p1.below rfl hW) hs (P'.out.p1.below rfl hW) hs')
 have C2:=hid (λW (hW:Below ((w.alloc (rtO m)).alloc (rtO m')).heap.size ((w.alloc (rtO m)).alloc (rtO m')) W)=>pP m m' W (P.out.below hW) (P'.out.below hW) hl hs' hl')
 have C3:=hid (λW (hW:Below ((w.alloc (rtO m)).alloc (rtO m')).heap.size ((w.alloc (rtO m)).alloc (rtO m')) W)=>pP m' m W (P'.out.below hW) (P.out.below hW) hl' hs hl)
 have C4:=hid (λW (hW:Below ((w.alloc (rtO m)).alloc (rtO m')).heap.size ((w.alloc (rtO m)).alloc (rtO m')) W)=>iL m.A3 m.c3 m.r.pts m'.A3 m'.c3 m'.r.pts W (P.out.p3.below rfl hW) hp (P'.out.p3.below rfl hW) hp')
 have C5:=hid (λW (hW:Below ((w.alloc (rtO m)).alloc (rtO m')).heap.size ((w.alloc (rtO m)).alloc (rtO m')) W)=>iL m'.A3 m'.c3 m'.r.pts m.A3 m.c3 m.r.pts W (P'.out.p3.below rfl hW) hp' (P.out.p3.below rfl hW) hp)
 rw[Cl.bars_eq]
 generalize hz:(m.r.entry == m'.r.entry)=z0
 have HZ:=hid hz
 generalize Cl.share m.r.steps m'.r.steps=z1 at C1 ⊢
 generalize Cl.meets m.r m'.r=z2 at C2 ⊢
 generalize Cl.meets m'.r m.r=z3 at C3 ⊢
 generalize Dm.opposed m.r.pts m'.r.pts=z4 at C4 ⊢
 generalize Dm.opposed m'.r.pts m.r.pts=z5 at C5 ⊢
 clear h h' XX hz
 go_enter Tryz.func38,Tryz.ntmps38
 go_upto_region 1 with fail
 generalize (w.alloc (rtO m)).alloc (rtO m')=w2 at X P P' R1 R2 C1 C2 C3 C4 C5 ⊢
 generalize w.heap.size+1=g2 at R2 ⊢
 generalize hg:w.heap.size=g at R1 ⊢
 have X2:=hid (AtB w2)
 have gx:=(row9 R1).2.2
 have gy:=(row9 R2).2.2
 have K:=hid (λW (hW:Below w2.heap.size w2 W)=>AsG (row9 ((hW.block _ gx).trans R1)).1 (row9 ((hW.block _ gy).trans R2)).1)
 clear hg R1 R2 hl hs' hl' hs hp hp' gx gy
 obtain⟨⟨p0,p1,p2,p3,p4,p5,p6,p7,p8⟩,q0,q1,q2,q3,q4,q5,q6,q7,q8⟩:=K.out _ X2.out
 have hz:=HZ.out
 clear HZ
 cases z0 with
 | true =>
   go_wp2
   go_ret
   exact⟨rfl,X.out⟩
 | false =>
   go_wp2_with fail
   refine(C1.out _ X2.out).mono ?_;rintro e w3 ⟨rfl,hb⟩
   have B1:=hid (hb)
   have F1:=hid (X.out.trans (hb.mono X.out.size))
   clear hb p0 p1 p2 p3 p4 p5 p6 p7 p8 q0 q1 q2 q3 q4 q5 q6 q7 q8 hz C1
   cases z1 with
   | true =>
     go_wp2
     go_ret
     exact⟨rfl,F1.out⟩
   | false =>
     obtain⟨⟨p0,p1,p2,p3,p4,p5,p6,p7,p8⟩,q0,q1,q2,q3,q4,q5,q6,q7,q8⟩:=K.out _ B1.out
     go_wp2_with fail
     refine(C2.out _ B1.out).mono ?_;rintro e w4 ⟨rfl,hb⟩
     have B2:=hid (B1.out.trans (hb.mono B1.out.size))
     have F2:=hid (F1.out.trans (hb.mono F1.out.size))
     clear hb p0 p1 p2 p3 p4 p5 p6 p7 p8 q0 q1 q2 q3 q4 q5 q6 q7 q8 C2 B1 F1
     cases z2 with
     | true =>
       go_wp2
       go_ret
       exact⟨rfl,F2.out⟩
     | false =>
       obtain⟨⟨p0,p1,p2,p3,p4,p5,p6,p7,p8⟩,q0,q1,q2,q3,q4,q5,q6,q7,q8⟩:=K.out _ B2.out
       go_wp2_with fail
       refine(C3.out _ B2.out).mono ?_;rintro e w5 ⟨rfl,hb⟩
       have B3:=hid (B2.out.trans (hb.mono B2.out.size))
       have F3:=hid (F2.out.trans (hb.mono F2.out.size))
       clear hb p0 p1 p2 p3 p4 p5 p6 p7 p8 q0 q1 q2 q3 q4 q5 q6 q7 q8 C3 B2 F2
       cases z3 with
       | true =>
         go_wp2
         go_ret
         exact⟨rfl,F3.out⟩
       | false =>
         obtain⟨⟨p0,p1,p2,p3,p4,p5,p6,p7,p8⟩,q0,q1,q2,q3,q4,q5,q6,q7,q8⟩:=K.out _ B3.out
         go_wp2_with fail
         refine(C4.out _ B3.out).mono ?_;rintro e w6 ⟨rfl,hb⟩
         have B4:=hid (B3.out.trans (hb.mono B3.out.size))
         have F4:=hid (F3.out.trans (hb.mono F3.out.size))
         clear hb p0 p1 p2 p3 p4 p5 p6 p7 p8 q0 q1 q2 q3 q4 q5 q6 q7 q8 C4 B3 F3
         cases z4 with
         | true =>
           go_wp2
           go_ret
           exact⟨rfl,F4.out⟩
         | false =>
           obtain⟨⟨p0,p1,p2,p3,p4,p5,p6,p7,p8⟩,q0,q1,q2,q3,q4,q5,q6,q7,q8⟩:=K.out _ B4.out
           go_wp2_with fail
           refine(C5.out _ B4.out).mono ?_;rintro e w7 ⟨rfl,hb⟩
           have B5:=hid (B4.out.trans (hb.mono B4.out.size))
           have F5:=hid (F4.out.trans (hb.mono F4.out.size))
           clear hb p0 p1 p2 p3 p4 p5 p6 p7 p8 q0 q1 q2 q3 q4 q5 q6 q7 q8 C5 B4 F4
           go_wp2
           go_ret
           exact⟨rfl,F5.out⟩
 --]
theorem ApartR.moved {α:Type} {E:Lies α} {w w':World} {k k':Option Nat} {A:Option Addr} {L:List α} (h:ApartR E w k A L) (hg:w.grownBy w' k) (hk:∀ j,k'=some j->k=some j∨w.heap.size<=j):ApartR E w' k' A L:=by
 have h1:=h.grown hg
 refine⟨h1.1,λhL a ha=>⟨λe=>?_,(h1.2 hL a ha).2⟩⟩
 rcases hk _ e with h2|h2
 ·exact(h.2 hL a ha).1 h2
 have:=(h.2 hL a ha).2;omega
theorem uT {w:World} {base base':Nat} {e:TypeId} {size:Nat} {v:Value} {n:Nat} {xs:List Value} (h:w.ownsRow base e size v n xs) (hb:base'<=base):w.ownsRow base' e size v n xs:=by
 refine⟨h.1,h.2.imp id ?_⟩
 rintro⟨g,cap,cur,rfl,h1,h2⟩
 exact⟨g,cap,cur,rfl,ArS hb h1,h2⟩
structure OwnSets (base:Nat) (w:World) (v:Value) (R:List (List Nat)):Prop where
 ex:∃ M:List SetM,M.map SetM.L=R/\w.ownsRow base 80 fW.m v R.length (fW.all M)/\∀ m∈M,ApartR LWd w v.ownBlock m.A m.L/\NewR base m.A m.L
theorem OwnSets.nil (w:World) (base:Nat):OwnSets base w (.slice none 0 0) []:=⟨[],rfl,World.ownsRow_nil _ _ _ _,λ_ h=>by cases h⟩
theorem OwnSets.below {base:Nat} {w w':World} {v:Value} {R:List (List Nat)} (h:OwnSets base w v R) (hb:Below w.heap.size w w'):OwnSets base w' v R:=by
 obtain⟨M,h1,h2,h3⟩:=h
 exact⟨M,h1,aA h2 hb,λm hm=>⟨(h3 m hm).1.below hb,(h3 m hm).2⟩⟩
theorem OwnSets.lt {base:Nat} {w:World} {v:Value} {R:List (List Nat)} (h:OwnSets base w v R) {j:Nat} (hj:v.ownBlock=some j):j<w.heap.size:=by
 obtain⟨M,-,h2,-⟩:=h
 exact(h2.lt j hj).2
theorem OwnSets.sets {base:Nat} {w:World} {v:Value} {R:List (List Nat)} (h:OwnSets base w v R):∃ A c,v=.slice A R.length c/\SetsNew base w A R:=by
 obtain⟨M,h1,h2,h3⟩:=h
 obtain⟨-,A,c,rfl,-,hR⟩:=Lies.Row.of_own (E:=fW) h2
 exact⟨A,c,rfl,M,h1,⟨hR,iB h2⟩,λm hm=>⟨(h3 m hm).1.1,(h3 m hm).2⟩⟩
theorem AhO {w:World} {base:Nat} {v:Value} {L:List Nat} (h:w.ownsRow base 82 LWd.m v L.length (LWd.all L)) {k:Option Nat} (hk:∀ j,k=some j->j<base):∃ A c,v=.slice A L.length c/\ApartR LWd w k A L/\NewR base A L:=by
 obtain⟨-,A,c,rfl,-,hR⟩:=Lies.Row.of_own (E:=LWd) h
 have hn:=iB h
 exact⟨A,c,rfl,ApartR.new hR hn hk,hn⟩
theorem Cl.ofL_snoc {n x:Int} (h:x<n) (l:List Int):Bs.ofL n (l++[x])=Bs.put (Bs.ofL n l) x:=by
 unfold Bs.ofL
 rw[List.foldl_append,List.foldl_cons,List.foldl_nil,ArZ h]
theorem ApC {w W:World} {b o:Nat} {m:RouteM} (hW:Below w.heap.size w W) (hb:b<w.heap.size) (h:LRt.On w b o m):LRt.On W b o m:=λj v hv=>(hW.cell (p:=⟨b,o+j,none⟩) hb).trans (h j v hv)
theorem AmE {L:List Rt.Route} {k:Nat} {y:Rt.Route} (h:L[k]?=some y):L.getD k Rt.zero=y:=by rw[List.getD_eq_getElem?_getD,h];rfl
theorem uU (A:Option Addr) (c:Nat) (L:List Rt.Route) (w:World) (h:RoutesIn w A L) (hs:∀ r∈L,Cl.Tiny r) (hl:L.length<=1000000) :
 Calls Tryz.prog 16 #[.slice A L.length c] w (SetsMade (Cl.rows L) w):=by
 --[
 have HR:=hid h
 have HS:=hid hs
 have B0:=hid (AtB w)
 have RL:=hid (Cl.rows_len L)
 have O0:=hid (show OwnSets w.heap.size w (.slice none 0 0) ((Cl.rows L).take 0) from OwnSets.nil w w.heap.size)
 have CN:=hid (λW=>AhN (L.length:Int) W (by omega))
 clear h hs
 go_enter Tryz.func16,Tryz.ntmps16
 go_wp2_with fail
 go_loopw [3,4,5,6] (λv3 v4 _ _ w'=>∃ i:Nat,i<=L.length/\v4=.int .i64 i/\OwnSets w.heap.size w' v3 ((Cl.rows L).take i)/\Below w.heap.size w w') (λ_ v4 _ _ _=>L.length-(intOf v4).toNat)
 case atStart=>exact⟨0,AsD _,rfl,O0.out,B0.out⟩
 case round =>
  obtain⟨i,hi,rfl,hO,hb⟩:=hrel
  have HB:=hid hb
  have HO:=hid hO
  clear hO hb
  by_cases hlt:i<L.length
  ·have d1 : decide ((i:Int)<(L.length:Int))=true:=aC (by omega)
   have i0:(0:Int)<=(i:Int):=ArT i
   have i1:(i:Int)<(L.length:Int):=by omega
   have T0:=hid (AtB wr)
   go_wp2_with fail
   refine(CN.out _).mono ?_;rintro e w2 ⟨v,rfl,ho2,hb2⟩
   have O2:=hid (show w2.ownsRow wr.heap.size 82 LWd.m v (Bs.ofL (L.length:Int) (Cl.barred L i 0)).length (LWd.all (Bs.ofL (L.length:Int) (Cl.barred L i 0))) from ho2)
   have B2:=hid hb2
   clear ho2 hb2
   go_wp2_with fail
   go_loopw [5,6] (λv5 v6 w'=>∃ k:Nat,k<=L.length/\v6=.int .i64 k/\w'.ownsRow wr.heap.size 82 LWd.m v5 (Bs.ofL (L.length:Int) (Cl.barred L i k)).length (LWd.all (Bs.ofL (L.length:Int) (Cl.barred L i k)))/\Below wr.heap.size wr w') (λ_ v6 _=>L.length-(intOf v6).toNat)
   case atStart=>exact⟨0,AsD _,rfl,O2.out,B2.out⟩
   case round =>
    clear O2 B2
    obtain⟨k,hk,rfl,ho,hb⟩:=hrel
    have HBk:=hid hb
    have HOk:=hid ho
    by_cases hkl:k<L.length
    ·obtain⟨d2,k0,k1⟩:=ArK (show k<L.length by omega)
     have hbw:=HB.out.trans (hb.mono HB.out.size)
     have hya:=ArN hlt
     have hyk:=ArN hkl
     obtain⟨b,o,m1,rfl,hbb,h1,on1,P1⟩:=(HR.out.below hbw).at hya
     obtain⟨b',o',m2,hA,-,h2,on2,P2⟩:=(HR.out.below hbw).at hyk
     cases hA
     have hH:Cl.hit L i k=(decide (k≠i) && Cl.bars m1.r m2.r):=by
      unfold Cl.hit
      rw[AmE hya,AmE hyk,h1,h2]
     have t1:=HS.out _ (List.getElem_mem hlt)
     have t2:=HS.out _ (List.getElem_mem hkl)
     rw[<-h1] at t1
     rw[<-h2] at t2
     have HT:=hid (Cl.barred_succ L i k)
     rw[hH] at HT
     have CB:=hid (λW (hW:Below wr.heap.size wr W)=>AcC m1 m2 W (P1.below hW) (P2.below hW) t1 t2)
     generalize hzz:Cl.bars m1.r m2.r=z at HT CB
     have V0:=hid (AtB wr)
     have KS:=hid (λW (hW:Below wr.heap.size wr W)=>AsG (mE (ApC hW hbb on1)) (mE (ApC hW hbb on2)))
     clear hzz hH hya hyk h1 h2 t1 t2 P1 P2 on1 on2 hbb hbw ho hb
     by_cases hka:k=i
     ·have E:((k:Int) != (i:Int))=false:=by rw[bne_eq_false_iff_eq];omega
      have HT2:=hid (show Cl.barred L i (k+1)=Cl.barred L i k from by have:=HT.out;rwa [decide_eq_false (p:=k≠i) (λh=>h hka),Bool.false_and,ArY (by decide),AsM] at this)
      clear hka
      go_upto_region 9 with fail
      go_quiet (fail)
      go_wp2
      go_roundw
      case rel=>exact⟨k+1,by omega,by go_num,by rw[HT2.out];exact aA HOk.out (aH V0.out _),aH HBk.out _⟩
      case measure=>simp[intOf];omega
     have E:((k:Int) != (i:Int))=true:=by rw[AsV];omega
     have HT2:=hid (show Cl.barred L i (k+1)=Cl.barred L i k++if z=true then [(k:Int)] else [] from by have:=HT.out;rwa [decide_eq_true (p:=k≠i) hka,Bool.true_and] at this)
     clear hka
     go_upto_region 9 with fail
     go_region_held3 (λW'=>(W'.cell? ⟨b,o+i*9,none⟩=some (.int .i64 m1.r.entry)/\W'.cell? ⟨b,o+i*9+1,none⟩=some (.int .i64 m1.r.exit)/\W'.cell? ⟨b,o+i*9+2,none⟩=some (.slice m1.A1 m1.r.steps.length m1.c1)/\W'.cell? ⟨b,o+i*9+3,none⟩=some (.slice m1.A2 m1.r.lap.length m1.c2)/\W'.cell? ⟨b,o+i*9+4,none⟩=some (.slice m1.A3 m1.r.pts.length m1.c3)/\W'.cell? ⟨b,o+i*9+5,none⟩=some (.slice m1.A4 m1.r.fl.length m1.c4)/\W'.cell? ⟨b,o+i*9+6,none⟩=some (.slice m1.A5 m1.r.near.length m1.c5)/\W'.cell? ⟨b,o+i*9+7,none⟩=some (.int .i64 m1.r.dist)/\W'.cell? ⟨b,o+i*9+8,none⟩=some (.int .i64 m1.r.timer))/\(W'.cell? ⟨b,o+k*9,none⟩=some (.int .i64 m2.r.entry)/\W'.cell? ⟨b,o+k*9+1,none⟩=some (.int .i64 m2.r.exit)/\W'.cell? ⟨b,o+k*9+2,none⟩=some (.slice m2.A1 m2.r.steps.length m2.c1)/\W'.cell? ⟨b,o+k*9+3,none⟩=some (.slice m2.A2 m2.r.lap.length m2.c2)/\W'.cell? ⟨b,o+k*9+4,none⟩=some (.slice m2.A3 m2.r.pts.length m2.c3)/\W'.cell? ⟨b,o+k*9+5,none⟩=some (.slice m2.A4 m2.r.fl.length m2.c4)/\W'.cell? ⟨b,o+k*9+6,none⟩=some (.slice m2.A5 m2.r.near.length m2.c5)/\W'.cell? ⟨b,o+k*9+7,none⟩=some (.int .i64 m2.r.dist)/\W'.cell? ⟨b,o+k*9+8,none⟩=some (.int .i64 m2.r.timer)))
      (first|with_reducible exact KS.out _ V0.out.drew|with_reducible exact KS.out _ h5|(go_keep;done))
      (first|(go_at_call 38;(with_reducible refine(CB.out _ V0.out.drew).mono ?_);rintro e5 w5 ⟨rfl,hb5⟩;have h5:=V0.out.drew.trans (hb5.mono V0.out.drew.size)))
     have B5:=hid (HBk.out.trans (h5.mono HBk.out.size))
     have O5:=hid (aA HOk.out h5)
     clear KS CB h5
     cases z with
     | false =>
       go_wp2
       go_roundw
       case rel=>exact⟨k+1,by omega,by go_num,by rw[HT2.out,ArY (by decide),AsM];exact O5.out,B5.out⟩
       case measure=>simp[intOf];omega
     | true =>
       have HP:=hid (show Bs.ofL (L.length:Int) (Cl.barred L i (k+1))=Bs.put (Bs.ofL (L.length:Int) (Cl.barred L i k)) (k:Int) from by rw[HT2.out,ArZ rfl,Cl.ofL_snoc (by omega)])
       have hW:=Bs.W32.ofL (L.length:Int) (Cl.barred L i k)
       have hML:(Bs.ofL (L.length:Int) (Cl.barred L i k)).length<=1000000:=by
        rw[Bs.ofL_len,Bs.new_len]
        split <;> omega
       generalize Bs.ofL (L.length:Int) (Cl.barred L i k)=X at HOk O5 HP hW hML
       obtain⟨-,Bx,dx,rfl,-,hRx⟩:=Lies.Row.of_own (E:=LWd) O5.out
       have CW:=hid (AcA Bx dx X (k:Int) w5 (by omega) hRx hW hML)
       clear hRx hW hML
       go_wp2_with fail
       refine CW.out.mono ?_;rintro e w6 ⟨v6,rfl,ho6,hb6⟩
       have B6:=hid (B5.out.trans (hb6.mono B5.out.size))
       have O6:=hid (uT ho6 B5.out.size)
       clear ho6 hb6
       go_wp2
       go_roundw
       case rel=>exact⟨k+1,by omega,by go_num,by rw[HP.out];exact O6.out,B6.out⟩
       case measure=>simp[intOf];omega
    obtain rfl:k=L.length:=by omega
    have d2:decide ((L.length:Int)<(L.length:Int))=false:=aB (by omega)
    have hlt1:((Cl.rows L).take i).length=i:=by rw[AsU,RL.out];omega
    obtain⟨Ax,cx,rfl,hAx,hAn⟩:=AhO (L:=Cl.row L i) ho (λj hj=>HO.out.lt hj)
    obtain⟨M,hM1,hM2,hM3⟩:=HO.out.below hb
    have HM:=hid (AsG hM1 hM3)
    rw[hlt1] at hM2
    have HAX:=hid hAx
    have HAN:=hid (hAn.base HB.out.size)
    have HTK:=hid (Cl.rows_take L hlt)
    have HO1:=hid (hM2.alloc (.cells #[.slice Ax (Cl.row L i).length cx] 80))
    have HR1:=hid (show fW.Row (wr.alloc (.cells #[.slice Ax (Cl.row L i).length cx] 80)) (some ⟨wr.heap.size,0,none⟩) [⟨Ax,cx,Cl.row L i⟩] from Lies.Row.fresh (E:=fW) wr [⟨Ax,cx,Cl.row L i⟩] 80)
    have X7:=hid ((AtB wr).alloc (ArR _) (.cells #[.slice Ax (Cl.row L i).length cx] 80))
    have hbw:=HB.out.trans (hb.mono HB.out.size)
    have HBW:=hid hbw
    have HSZ:=hbw.size
    obtain⟨j0,hi',hz0,hz1,hz2⟩:=info_parts AeN
    clear hM1 hM2 hM3 hAx hAn hb ho hbw HOk
    go_wp2_with (at_builtin;refine aG fW _ rfl (.tmp 39) (.tmp 41) 32 rfl w.heap.size 80 j0 _ 24 Tryz.underlying32 hi' hz0 hz1 hz2 rfl u3 i (fW.all M) rfl HO1.out (some ⟨wr.heap.size,0,none⟩) 1 1 [⟨Ax,cx,Cl.row L i⟩] rfl (by decide) rfl HR1.out (by omega) (by omega) (by simp;omega) ?_;intro g1 cap1 w8 hown hg1 hgr;have HN:=hid hown;have HG:=hid hg1;have HGR:=hid hgr;clear hown hg1 hgr)
    have S8:=hid (show OwnSets w.heap.size w8 (.slice (some ⟨g1,0,none⟩) (i+1) cap1) ((Cl.rows L).take (i+1)) from by
     have mv:∀ {B:Option Addr} {K:List Nat},ApartR LWd wr u3.ownBlock B K->ApartR LWd w8 (Value.slice (some ⟨g1,0,none⟩) (i+1) cap1).ownBlock B K:=λh=>(h.below X7.out).moved HG.out λj hj=>by
      cases hj
      rcases HGR.out with h|h
      ·exact .inl h
      exact .inr (by rw[h];exact ArR _)
     rw[HTK.out]
     refine⟨M++[⟨Ax,cx,Cl.row L i⟩],by rw[List.map_append,HM.out.1];rfl,?_,λm hm=>?_⟩
     ·rw[ArV,hlt1,fW.all_append]
      exact HN.out
     rcases ArW.1 hm with hm|hm
     ·exact⟨mv (HM.out.2 m hm).1,(HM.out.2 m hm).2⟩
     rw[AsS.1 hm]
     exact⟨mv HAX.out,HAN.out⟩)
    have B8:=hid ((HBW.out.trans (X7.out.mono HBW.out.size)).grown HG.out (HBW.out.trans (X7.out.mono HBW.out.size)).size λj hj=>(HO1.out.lt j hj).1)
    go_roundw
    case rel=>exact⟨i+1,by omega,by go_num,S8.out,B8.out⟩
    case measure=>simp[intOf];omega
  obtain rfl:i=L.length:=by omega
  have d1:decide ((L.length:Int)<(L.length:Int))=false:=aB (by omega)
  have HF:=HO.out
  rw[<-RL.out,List.take_length] at HF
  obtain⟨Ax,cx,rfl,hS⟩:=HF.sets
  have HSX:=hid hS
  clear hS HF
  go_wp2
  go_ret
  exact⟨Ax,cx,rfl,HSX.out,HB.out⟩
 --]
theorem Cl.sets_drop {R:List (List Nat)} {j:Nat} {x:List Nat} (h:R[j]?=some x) {S:List (List Nat)} {y:List Nat} (h':S[j]?=some y):(R.drop j=S.drop j) ↔ x=y/\R.drop (j+1)=S.drop (j+1):=by
 obtain⟨h1,rfl⟩:=ArM h
 obtain⟨h2,rfl⟩:=ArM h'
 rw[List.drop_eq_getElem_cons h1,List.drop_eq_getElem_cons h2,List.cons.injEq]
theorem AcD (A:Option Addr) (c:Nat) (R:List (List Nat)) (A':Option Addr) (c':Nat) (S:List (List Nat)) (w:World) (h:SetsIn w A R) (hl:∀ x∈R,x.length<=1000000) (h':SetsIn w A' S) (hR:R.length<=1000000) :
 Calls Tryz.prog 18 #[.slice A R.length c,.slice A' S.length c'] w (OneIs (.bool (decide (R=S))) w):=by
 --[
 have B0:=hid (AtB w)
 have HR:=hid h
 have HS:=hid h'
 have HL:=hid hl
 clear h h' hl
 by_cases hn:R.length=S.length
 ·have E : ((R.length:Int) != (S.length:Int))=false:=by rw[bne_eq_false_iff_eq];omega
  generalize hq:decide (R=S)=q
  have HQ:=hid (show decide (R.drop 0=S.drop 0)=q from by rw[List.drop_zero,List.drop_zero];exact hq)
  clear hq
  have HN:=hid hn
  clear hn
  go_enter Tryz.func18,Tryz.ntmps18
  go_wp2_with fail
  go_loopw [5] (λv w'=>∃ j:Nat,j<=R.length/\v=.int .i64 j/\decide (R.drop j=S.drop j)=q/\Below w.heap.size w w') (λv _=>R.length-(intOf v).toNat)
  case atStart=>exact⟨0,AsD _,rfl,HQ.out,B0.out⟩
  case round =>
   obtain⟨j,hj,rfl,hp,hb⟩:=hrel
   clear HQ E
   by_cases hlt:j<R.length
   ·have hy:=ArN hlt
    have hjs:j<S.length:=by have:=HN.out;omega
    have hy':=ArN hjs
    have HB:=hid hb
    have hxl:=HL.out _ (List.getElem_mem hlt)
    obtain⟨b,o,X,xc,rfl,hbb,c0,hX⟩:=(HR.out.below hb).at hy
    obtain⟨b',o',Y,yc,rfl,hbb',c0',hY⟩:=(HS.out.below hb).at hy'
    have hdd:=Cl.sets_drop hy hy'
    generalize R[j]=x at hy hxl c0 hX hdd
    generalize S[j]=y at hy' c0' hY hdd
    obtain⟨d1,i0,i1⟩:=ArK (show j<R.length by omega)
    have i2:(j:Int)<(S.length:Int):=by omega
    have V0:=hid (AtB wr)
    have KS:=hid (λW (hW:Below wr.heap.size wr W)=>AsG ((hW.cell (p:=⟨b,o+j,none⟩) hbb).trans c0) ((hW.cell (p:=⟨b',o'+j,none⟩) hbb').trans c0'))
    have C:=hid (λW (hW:Below wr.heap.size wr W)=>AcB X xc x.length x Y yc y.length y W rfl (hX.below rfl hW) hxl rfl (hY.below rfl hW))
    have hz:decide (R.drop j=S.drop j)=(decide (x=y) && decide (R.drop (j+1)=S.drop (j+1))):=by
     rw[Bool.eq_iff_iff,AsF,AsC,AsC,AsC]
     exact hdd
    rw[hz] at hp
    generalize decide (x=y)=z at C hp
    have HP:=hid hp
    clear hb hy hy' hdd hz hp hX hY hbb hbb' c0 c0' hxl
    go_upto_region 6 with fail
    go_region_held3 (λW'=>W'.cell? ⟨b,o+j,none⟩=some (.slice X x.length xc)/\W'.cell? ⟨b',o'+j,none⟩=some (.slice Y y.length yc))
     (first|with_reducible exact KS.out _ V0.out.drew|with_reducible exact KS.out _ h5|(go_keep;done))
     (first|(go_at_call 43;(with_reducible refine(C.out _ V0.out.drew).mono ?_);rintro e5 w5 ⟨rfl,hb5⟩;have h5:=V0.out.drew.trans (hb5.mono V0.out.drew.size)))
    have B5:=hid (HB.out.trans (h5.mono HB.out.size))
    clear h5 KS C
    cases z with
    | true =>
      have HP2:=hid (show decide (R.drop (j+1)=S.drop (j+1))=q from HP.out)
      go_wp2
      go_roundw
      case rel=>exact⟨j+1,by omega,by go_num,HP2.out,B5.out⟩
      case measure=>simp[intOf];omega
    | false =>
      have HP2:=hid (show false=q from HP.out)
      go_wp2
      go_ret
      exact⟨by rw[<-HP2.out] <;> rfl,B5.out⟩
   obtain rfl:j=R.length:=by omega
   have d1:decide ((R.length:Int)<(R.length:Int))=false:=aB (by omega)
   have HP:=hid (show true=q from by
    rw[List.drop_length,HN.out,List.drop_length] at hp
    exact hp)
   have HB:=hid hb
   clear hp hb
   go_wp2
   go_ret
   exact⟨by rw[<-HP.out] <;> rfl,HB.out⟩
 ·have E:((R.length:Int) != (S.length:Int))=true:=by rw[AsV];omega
  have P:=hid (show decide (R=S)=false from decide_eq_false λe=>hn (congrArg List.length e))
  clear hn
  go_enter Tryz.func18,Tryz.ntmps18
  go_wp2
  go_ret
  exact⟨by rw[P.out] <;> rfl,B0.out⟩
 --]
theorem yK (m m':TableM) (w:World) (hm:m.t=m'.t) (h:TableIn w m) (h':TableIn w m') (hr:m.t.routes.length<=1000) (hs:∀ y∈m.t.routes,y.steps.length<=1000/\y.lap.length<=1000/\y.pts.length<=1000/\y.fl.length<=1000/\y.near.length<=1000) (hb:∀ x∈m.t.bars,x.length<=1000000) (hbl:m.t.bars.length<=1000000) (hnl:m.t.names.length<=1000000) (hpl:m.t.points.length<=1000000) (hsl:m.t.sigs.length<=1000000) :
 Calls Tryz.prog 8 #[tbV m,tbV m'] w λe w'=>e=.returned (.bool true)/\Below w.heap.size w w':=by
 --[
 obtain⟨A0,c0,A1,c1,A2,c2,A4,c4,A5,c5,t⟩:=m
 obtain⟨B0,d0,B1,d1,B2,d2,B4,d4,B5,d5,t'⟩:=m'
 obtain rfl:t=t':=hm
 simp only at hr hs hb hbl hnl hpl hsl
 show Calls Tryz.prog 8 #[.agg #[.slice A0 t.names.length c0,.slice A1 t.points.length c1,.slice A2 t.sigs.length c2,.int .i64 t.settle,.slice A4 t.routes.length c4,.slice A5 t.bars.length c5],.agg #[.slice B0 t.names.length d0,.slice B1 t.points.length d1,.slice B2 t.sigs.length d2,.int .i64 t.settle,.slice B4 t.routes.length d4,.slice B5 t.bars.length d5]] w λe w'=>e=.returned (.bool true)/\Below w.heap.size w w'
 obtain⟨R1,R2,XX⟩:=eN w (.cells #[.slice A0 t.names.length c0,.slice A1 t.points.length c1,.slice A2 t.sigs.length c2,.int .i64 t.settle,.slice A4 t.routes.length c4,.slice A5 t.bars.length c5] 34) (.cells #[.slice B0 t.names.length d0,.slice B1 t.points.length d1,.slice B2 t.sigs.length d2,.int .i64 t.settle,.slice B4 t.routes.length d4,.slice B5 t.bars.length d5] 34)
 have X:=hid XX
 have IA:=hid (h.below XX)
 have IB:=hid (h'.below XX)
 have CR:=hid (λW (hW:Below ((w.alloc (.cells #[.slice A0 t.names.length c0,.slice A1 t.points.length c1,.slice A2 t.sigs.length c2,.int .i64 t.settle,.slice A4 t.routes.length c4,.slice A5 t.bars.length c5] 34)).alloc (.cells #[.slice B0 t.names.length d0,.slice B1 t.points.length d1,.slice B2 t.sigs.length d2,.int .i64 t.settle,.slice B4 t.routes.length d4,.slice B5 t.bars.length d5] 34)).heap.size ((w.alloc (.cells #[.slice A0 t.names.length c0,.slice A1 t.points.length c1,.slice A2 t.sigs.length c2,.int .i64 t.settle,.slice A4 t.routes.length c4,.slice A5 t.bars.length c5] 34)).alloc (.cells #[.slice B0 t.names.length d0,.slice B1 t.points.length d1,.slice B2 t.sigs.length d2,.int .i64 t.settle,.slice B4 t.routes.length d4,.slice B5 t.bars.length d5] 34)) W)=>AbZ t.routes A4 c4 B4 d4 W (IA.out.p4.below hW) (IB.out.p4.below hW) hr hs)
 have CS:=hid (λW (hW:Below ((w.alloc (.cells #[.slice A0 t.names.length c0,.slice A1 t.points.length c1,.slice A2 t.sigs.length c2,.int .i64 t.settle,.slice A4 t.routes.length c4,.slice A5 t.bars.length c5] 34)).alloc (.cells #[.slice B0 t.names.length d0,.slice B1 t.points.length d1,.slice B2 t.sigs.length d2,.int .i64 t.settle,.slice B4 t.routes.length d4,.slice B5 t.bars.length d5] 34)).heap.size ((w.alloc (.cells #[.slice A0 t.names.length c0,.slice A1 t.points.length c1,.slice A2 t.sigs.length c2,.int .i64 t.settle,.slice A4 t.routes.length c4,.slice A5 t.bars.length c5] 34)).alloc (.cells #[.slice B0 t.names.length d0,.slice B1 t.points.length d1,.slice B2 t.sigs.length d2,.int .i64 t.settle,.slice B4 t.routes.length d4,.slice B5 t.bars.length d5] 34)) W)=>AcD A5 c5 t.bars B5 d5 t.bars W (IA.out.p5.below hW) hb (IB.out.p5.below hW) hbl)
 have E0:((t.names.length:Int) != (t.names.length:Int))=false:=by simp
 have E1:((t.points.length:Int) != (t.points.length:Int))=false:=by simp
 have E2:((t.sigs.length:Int) != (t.sigs.length:Int))=false:=by simp
 have E3:(t.settle != t.settle)=false:=by simp
 rw[decide_eq_true (rfl:t.bars=t.bars)] at CS
 clear h h' XX hr hs hb hbl
 go_enter Tryz.func8,Tryz.ntmps8
 go_upto_region 1 with fail
 generalize (w.alloc (.cells #[.slice A0 t.names.length c0,.slice A1 t.points.length c1,.slice A2 t.sigs.length c2,.int .i64 t.settle,.slice A4 t.routes.length c4,.slice A5 t.bars.length c5] 34)).alloc (.cells #[.slice B0 t.names.length d0,.slice B1 t.points.length d1,.slice B2 t.sigs.length d2,.int .i64 t.settle,.slice B4 t.routes.length d4,.slice B5 t.bars.length d5] 34)=w2 at X IA IB R1 R2 CR CS ⊢
 generalize w.heap.size+1=g2 at R2 ⊢
 generalize hg:w.heap.size=g at R1 ⊢
 have gx:=(ArL R1).1
 have gy:=(ArL R2).1
 have K:=hid (λW (hW:Below w2.heap.size w2 W)=>show (W.cell? ⟨g,0,none⟩=some (.slice A0 t.names.length c0)/\W.cell? ⟨g,1,none⟩=some (.slice A1 t.points.length c1)/\W.cell? ⟨g,2,none⟩=some (.slice A2 t.sigs.length c2)/\W.cell? ⟨g,3,none⟩=some (.int .i64 t.settle)/\W.cell? ⟨g,4,none⟩=some (.slice A4 t.routes.length c4)/\W.cell? ⟨g,5,none⟩=some (.slice A5 t.bars.length c5))/\W.cell? ⟨g2,0,none⟩=some (.slice B0 t.names.length d0)/\W.cell? ⟨g2,1,none⟩=some (.slice B1 t.points.length d1)/\W.cell? ⟨g2,2,none⟩=some (.slice B2 t.sigs.length d2)/\W.cell? ⟨g2,3,none⟩=some (.int .i64 t.settle)/\W.cell? ⟨g2,4,none⟩=some (.slice B4 t.routes.length d4)/\W.cell? ⟨g2,5,none⟩=some (.slice B5 t.bars.length d5) from AsG (cA (m:=⟨A0,c0,A1,c1,A2,c2,A4,c4,A5,c5,t⟩) ((hW.block _ gx).trans R1)).1 (cA (m:=⟨B0,d0,B1,d1,B2,d2,B4,d4,B5,d5,t⟩) ((hW.block _ gy).trans R2)).1)
 have B0:=hid (AtB w2)
 clear hg R1 R2 gx gy
 obtain⟨⟨p0,p1,p2,p3,p4,p5⟩,q0,q1,q2,q3,q4,q5⟩:=K.out _ B0.out
 go_wp2_with fail
 refine(CR.out _ B0.out).mono ?_;rintro e w3 ⟨rfl,hb⟩
 have B1:=hid hb
 clear hb p0 p1 p2 p3 p4 p5 q0 q1 q2 q3 q4 q5 CR
 obtain⟨⟨p0,p1,p2,p3,p4,p5⟩,q0,q1,q2,q3,q4,q5⟩:=K.out _ B1.out
 go_wp2_with fail
 refine(CS.out _ B1.out).mono ?_;rintro e w4 ⟨rfl,hb⟩
 have ST2:=hid (B1.out.trans (hb.mono B1.out.size))
 clear hb p0 p1 p2 p3 p4 p5 q0 q1 q2 q3 q4 q5 CS
 go_wp2_with fail
 go_loopw [5] (λv w'=>∃ j:Nat,j<=t.names.length/\v=.int .i64 j/\Below w2.heap.size w2 w') (λv _=>t.names.length-(intOf v).toNat)
 case atStart=>exact⟨0,AsD _,rfl,ST2.out⟩
 case round =>
  obtain⟨j,hj,rfl,hb⟩:=hrel
  have HB:=hid hb
  obtain⟨⟨p0,p1,p2,p3,p4,p5⟩,q0,q1,q2,q3,q4,q5⟩:=K.out _ hb
  by_cases hlt:j<t.names.length
  ·obtain⟨e1,j0,j1⟩:=ArK (show j<t.names.length by omega)
   obtain⟨ba,oa,rfl,-,ona⟩:=(IA.out.p0.below rfl hb).at hlt
   obtain⟨bb,ob,rfl,-,onb⟩:=(IB.out.p0.below rfl hb).at hlt
   generalize t.names[j]=x at ona onb
   have ca:=kG ona
   have cb:=kG onb
   rw[show j*LTx.m=j from Nat.mul_one j] at ca cb
   have Q:((txt x).toList != (txt x).toList)=false:=by rw[bne_eq_false_iff_eq]
   clear ona onb hb
   go_upto_region 6 with fail
   go_quiet (fail)
   go_wp2
   go_roundw
   case rel=>exact⟨j+1,by omega,by go_num,aH HB.out _⟩
   case measure=>simp[intOf];omega
  obtain rfl:j=t.names.length:=by omega
  have e1:decide ((t.names.length:Int)<(t.names.length:Int))=false:=aB (by omega)
  have ST6:=hid hb
  clear hb HB
  go_wp2_with fail
  go_loopw [6] (λv w'=>∃ j:Nat,j<=t.points.length/\v=.int .i64 j/\Below w2.heap.size w2 w') (λv _=>t.points.length-(intOf v).toNat)
  case atStart=>exact⟨0,AsD _,rfl,ST6.out⟩
  case round =>
   obtain⟨j,hj,rfl,hb⟩:=hrel
   have HB:=hid hb
   obtain⟨⟨p0,p1,p2,p3,p4,p5⟩,q0,q1,q2,q3,q4,q5⟩:=K.out _ hb
   by_cases hlt:j<t.points.length
   ·obtain⟨e1,j0,j1⟩:=ArK (show j<t.points.length by omega)
    obtain⟨ba,oa,rfl,-,ona⟩:=(IA.out.p1.below rfl hb).at hlt
    obtain⟨bb,ob,rfl,-,onb⟩:=(IB.out.p1.below rfl hb).at hlt
    generalize t.points[j]=x at ona onb
    have ca:=AlY ona
    have cb:=AlY onb
    rw[show j*LBo.m=j from Nat.mul_one j] at ca cb
    have Q:(x != x)=false:=by cases x <;> rfl
    clear ona onb hb
    go_upto_region 11 with fail
    go_quiet (fail)
    go_wp2
    go_roundw
    case rel=>exact⟨j+1,by omega,by go_num,aH HB.out _⟩
    case measure=>simp[intOf];omega
   obtain rfl:j=t.points.length:=by omega
   have e1:decide ((t.points.length:Int)<(t.points.length:Int))=false:=aB (by omega)
   have ST10:=hid hb
   clear hb HB
   go_wp2_with fail
   go_loopw [7] (λv w'=>∃ j:Nat,j<=t.sigs.length/\v=.int .i64 j/\Below w2.heap.size w2 w') (λv _=>t.sigs.length-(intOf v).toNat)
   case atStart=>exact⟨0,AsD _,rfl,ST10.out⟩
   case round =>
    obtain⟨j,hj,rfl,hb⟩:=hrel
    have HB:=hid hb
    obtain⟨⟨p0,p1,p2,p3,p4,p5⟩,q0,q1,q2,q3,q4,q5⟩:=K.out _ hb
    by_cases hlt:j<t.sigs.length
    ·obtain⟨e1,j0,j1⟩:=ArK (show j<t.sigs.length by omega)
     obtain⟨ba,oa,rfl,-,ona⟩:=(IA.out.p2.below rfl hb).at hlt
     obtain⟨bb,ob,rfl,-,onb⟩:=(IB.out.p2.below rfl hb).at hlt
     generalize t.sigs[j]=x at ona onb
     have ca:=kG ona
     have cb:=kG onb
     rw[show j*LTx.m=j from Nat.mul_one j] at ca cb
     have Q:((txt x).toList != (txt x).toList)=false:=by rw[bne_eq_false_iff_eq]
     clear ona onb hb
     go_upto_region 16 with fail
     go_quiet (fail)
     go_wp2
     go_roundw
     case rel=>exact⟨j+1,by omega,by go_num,aH HB.out _⟩
     case measure=>simp[intOf];omega
    obtain rfl:j=t.sigs.length:=by omega
    have e1:decide ((t.sigs.length:Int)<(t.sigs.length:Int))=false:=aB (by omega)
    have ST14:=hid hb
    clear hb HB
    go_wp2
    go_ret
    exact⟨rfl,X.out.trans (ST14.out.mono X.out.size)⟩
 --]
structure TbBut (g:Nat) (w w':World):Prop where
 os:w'.os=w.os
 tape:w'.tape=w.tape
 output:w'.output=w.output
 size:w.heap.size<=w'.heap.size
 block:∀ k,k<w.heap.size->k≠g->w'.heap[k]?=w.heap[k]?
section
variable {g : Nat} {w a b : World}
theorem TbBut.refl (g:Nat) (w:World):TbBut g w w:=⟨rfl,rfl,rfl,ArR _,λ_ _ _=>rfl⟩
theorem TbBut.below (h:TbBut g w a) (hb:Below a.heap.size a b):TbBut g w b :=
 ⟨hb.os.trans h.os,hb.tape.trans h.tape,hb.output.trans h.output,ArS h.size hb.size,λk hk hg=>(hb.block k (AsE hk h.size)).trans (h.block k hk hg)⟩
theorem TbBut.trans (h:TbBut g w a) (h':TbBut g a b):TbBut g w b :=
 ⟨h'.os.trans h.os,h'.tape.trans h.tape,h'.output.trans h.output,ArS h.size h'.size,λk hk hg=>(h'.block k (AsE hk h.size) hg).trans (h.block k hk hg)⟩
theorem TbBut.grown (h:TbBut g w a) {row:Option Nat} (hg:a.grownBy b row) (hr:∀ k,row=some k->w.heap.size<=k):TbBut g w b :=
 ⟨hg.os.trans h.os,hg.tape.trans h.tape,hg.output.trans h.output,ArS h.size hg.size,λk hk hn=>(hg.block k (AsE hk h.size) λe=>by have:=hr k e.symm;omega).trans (h.block k hk hn)⟩
theorem TbBut.setCell (h:TbBut g w a) (o:Nat) (v:Value):TbBut g w (a.setCell ⟨g,o,none⟩ v) :=
 ⟨h.os,h.tape,h.output,by simpa [World.setCell] using h.size,λk hk hn=>(AsX _ _ _ _ hn).trans (h.block k hk hn)⟩
theorem TbBut.to (h:TbBut g w a) {N:Nat} (hN:N<=g) (hw:N<=w.heap.size):Below N w a :=
 ⟨h.os,h.tape,h.output,h.size,λk hk=>h.block k (by omega) (by omega)⟩
theorem TbBut.row {α:Type} {E:Lies α} {A:Option Addr} {L:List α} (h:TbBut g w a) (hr:ApartR E w (some g) A L):E.Row a A L:=(hr.off h.size h.block).1
theorem TbBut.sets {N:Nat} {A:Option Addr} {R:List (List Nat)} (h:TbBut g w a) (hs:SetsAp N w (some g) A R):SetsNew N a A R:=(hs.off h.size h.block).new
end
structure TbB (g:Nat) (w5 w:World) (cs:Array Value) (v0:Value) (N:List Pl.Nm) (v1:Value) (P:List Bool):Prop where
 tab:w.heap[g]?=some (.cells cs 34)
 own0:w.ownsRow w5.heap.size 9 LTx.m v0 N.length (LTx.all N)
 own1:w.ownsRow w5.heap.size 4 LBo.m v1 P.length (LBo.all P)
 but:TbBut g w5 w
 lt:g<w5.heap.size
section
variable {g : Nat} {w5 w w1 w2 : World} {cs : Array Value} {v0 v1 v : Value} {N : List Pl.Nm} {P : List Bool}
theorem TbB.below (h:TbB g w5 w cs v0 N v1 P) (hb:Below w.heap.size w w1):TbB g w5 w1 cs v0 N v1 P :=
 ⟨(hb.block _ (AsE h.lt h.but.size)).trans h.tab,aA h.own0 hb,aA h.own1 hb,h.but.below hb,h.lt⟩
theorem TbB.name (h:TbB g w5 w cs v0 N v1 P) {x:Pl.Nm} {n:Nat} {xs:List Value} (hg:w.grownBy w2 v0.ownBlock) (ho:w2.ownsRow w5.heap.size 9 LTx.m v n xs) (hn:n=N.length+1) (hx:xs=LTx.all N++LTx.all [x]):TbB g w5 w2 cs v (N++[x]) v1 P:=by
 subst hn hx
 have h0:v0.ownBlock≠some g:=λe=>by
  have:=(h.own0.lt _ e).1
  have:=h.lt
  omega
 refine⟨(hg.block _ (AsE h.lt h.but.size) λe=>h0 e.symm).trans h.tab,by rw[ArV,LTx.all_append];exact ho,aL h.own1 λb hb=>hg.block _ (h.own1.lt b hb).2 λe=>iA h.own0 h.own1 (by decide) b e.symm hb,h.but.grown hg λk hk=>(h.own0.lt k hk).1,h.lt⟩
theorem TbB.point (h:TbB g w5 w cs v0 N v1 P) {x:Bool} {n:Nat} {xs:List Value} (hg:w.grownBy w2 v1.ownBlock) (ho:w2.ownsRow w5.heap.size 4 LBo.m v n xs) (hn:n=P.length+1) (hx:xs=LBo.all P++LBo.all [x]):TbB g w5 w2 cs v0 N v (P++[x]):=by
 subst hn hx
 have h0:v1.ownBlock≠some g:=λe=>by
  have:=(h.own1.lt _ e).1
  have:=h.lt
  omega
 refine⟨(hg.block _ (AsE h.lt h.but.size) λe=>h0 e.symm).trans h.tab,aL h.own0 λb hb=>hg.block _ (h.own0.lt b hb).2 λe=>iA h.own1 h.own0 (by decide) b e.symm hb,by rw[ArV,LBo.all_append];exact ho,h.but.grown hg λk hk=>(h.own1.lt k hk).1,h.lt⟩
theorem TbB.put (h:TbB g w5 w cs v0 N v1 P) (o:Nat) (v:Value):TbB g w5 (w.setCell ⟨g,o,none⟩ v) (cs.setIfInBounds o v) v0 N v1 P:=by
 have off:∀ b,w5.heap.size<=b->(w.setCell ⟨g,o,none⟩ v).heap[b]?=w.heap[b]?:=λb hb=>AsX _ _ _ _ λe=>by
  have:=h.lt
  simp only at e
  omega
 exact⟨AtA w g o _ _ v h.tab,aL h.own0 λb hb=>off b (h.own0.lt b hb).1,aL h.own1 λb hb=>off b (h.own1.lt b hb).1,h.but.setCell o v,h.lt⟩
theorem TbB.n0 (h:TbB g w5 w cs v0 N v1 P) {i:Nat} (hi:N.length=i):w.ownsRow w5.heap.size 9 LTx.m v0 i (LTx.all N):=hi ▸ h.own0
theorem TbB.n1 (h:TbB g w5 w cs v0 N v1 P) {i:Nat} (hi:P.length=i):w.ownsRow w5.heap.size 4 LBo.m v1 i (LBo.all P):=hi ▸ h.own1
theorem TbB.start (hg:w5.heap[g]?=some (.cells cs 34)):TbB g w5 w5 cs (.slice none 0 0) [] (.slice none 0 0) [] :=
 ⟨hg,World.ownsRow_nil _ _ _ _,World.ownsRow_nil _ _ _ _,TbBut.refl _ _,(ArL hg).1⟩
theorem TbB.cell (h:TbB g w5 w cs v0 N v1 P) {o:Nat} {x:Value} (hx:cs[o]?=some x):w.cell? ⟨g,o,none⟩=some x/\w.frozen? ⟨g,o,none⟩=false/\g<w.heap.size :=
 ⟨(AsY w g o _ _ _ h.tab).trans hx,AsZ w g o _ _ h.tab,(ArL h.tab).1⟩
end
theorem AoK {w:World} {base size k n c:Nat} {e:TypeId} {A:Option Addr} {xs:List Value} (h:w.ownsRow base e size (.slice A k c) n xs):n<=c:=by
 rcases h.2 with ⟨h1,h2⟩|⟨g,cap,cur,h1,-,-,h2,-⟩
 ·cases h1;omega
 cases h1;exact h2
structure TableFar (N:Nat) (w:World) (m:TableM):Prop where
 p0:LTx.Row w m.A0 m.t.names/\NewR N m.A0 m.t.names
 p1:LBo.Row w m.A1 m.t.points/\NewR N m.A1 m.t.points
 p2:LTx.Row w m.A2 m.t.sigs/\NewR N m.A2 m.t.sigs
 p4:RoutesFar N w m.A4 m.t.routes
 p5:SetsNew N w m.A5 m.t.bars
 q:m.t.names.length<=m.c0
section
variable {N : Nat} {w w' : World} {m : TableM}
theorem TableFar.in_ (h:TableFar N w m):TableIn w m:=⟨h.p0.1,h.p1.1,h.p2.1,h.p4.in_,h.p5.in_⟩
theorem TableFar.below (h:TableFar N w m) (hb:Below w.heap.size w w'):TableFar N w' m:=⟨⟨h.p0.1.below rfl hb,h.p0.2⟩,⟨h.p1.1.below rfl hb,h.p1.2⟩,⟨h.p2.1.below rfl hb,h.p2.2⟩,h.p4.below hb,h.p5.below hb,h.q⟩
theorem TableFar.base (h:TableFar N w m) {N':Nat} (hn:N'<=N):TableFar N' w m:=⟨⟨h.p0.1,h.p0.2.base hn⟩,⟨h.p1.1,h.p1.2.base hn⟩,⟨h.p2.1,h.p2.2.base hn⟩,h.p4.base hn,h.p5.base hn,h.q⟩
theorem TableFar.off (h:TableFar N w m) {B:Nat} {cs:Array Value} {t:TypeId} {fr:Nat × Nat} (hB:w.heap[B]?=some (.cells cs t fr)) (ht:t≠129) (hN:B<N) (hs:w.heap.size<=w'.heap.size) (hk:∀ b,b≠B->w'.heap[b]?=w.heap[b]?):TableFar N w' m:=by
 have hk':∀ b,b<w.heap.size->b≠B->w'.heap[b]?=w.heap[b]?:=λb _ hb=>hk b hb
 have row:∀ {α:Type} {E:Lies α} {A:Option Addr} {L:List α},E.Row w A L/\NewR N A L->E.Row w' A L/\NewR N A L:=λh=>⟨(ApartR.new h.1 h.2 (k:=some B) (λj hj=>by cases hj;exact hN)).off hs hk' |>.1,h.2⟩
 refine⟨row h.p0,row h.p1,row h.p2,?_,(h.p5.apart (k:=some B) (λj hj=>by cases hj;exact hN)).off hs hk' |>.new,h.q⟩
 obtain⟨M,h1,h2,h3⟩:=h.p4
 refine⟨M,h1,row h2,λm hm=>?_⟩
 obtain⟨hp,hf⟩:=h3 m hm
 refine⟨⟨((hf.p1.apart hp.p1 hB ht hN).off hs hk').1,((hf.p2.apart hp.p2 hB ht hN).off hs hk').1,((hf.p3.apart hp.p3 hB ht hN).off hs hk').1,((hf.p4.apart hp.p4 hB ht hN).off hs hk').1,((hf.p5.apart hp.p5 hB ht hN).off hs hk').1,hp.q⟩,hf.kept λb cs' fr' e=>hk b λe'=>?_⟩
 subst e'
 rw[hB] at e
 cases e
 exact ht rfl
end
theorem TableFar.up {N g:Nat} {w2 w5 w6 w:World} {A0 A1 A2 A4 A5:Option Addr} {c0 c1 c2 c4 c5:Nat} {cs cs':Array Value} {v1:Value} {Ns Ss:List Pl.Nm} {Ps:List Bool} {se:Int} {R:List Rt.Route} {B:List (List Nat)} {n s k:Nat} (hn:Ns.length=n) (hk:Ps.length=k) (hs:Ss.length=s)
 (h:TbB g w5 w6 cs (.slice A0 n c0) Ns (.slice A1 k c1) Ps) (h':TbB g w6 w cs' (.slice A2 s c2) Ss v1 []) (hR:RoutesFar N w2 A4 R) (hb:Below w2.heap.size w2 w5) (hg:w2.heap.size<=g) (hS:SetsAp w2.heap.size w5 (some g) A5 B) (hN:N<=w2.heap.size):TableFar N w ⟨A0,c0,A1,c1,A2,c2,A4,c4,A5,c5,⟨Ns,Ps,Ss,se,R,B⟩⟩:=by
 have h25:=hb.size
 have hl:=h.lt
 have hw:=h.but.trans h'.but
 have row:∀ {α:Type} {E:Lies α} {t:TypeId} {A:Option Addr} {c n:Nat} {L:List α},L.length=n->w6.ownsRow w5.heap.size t E.m (.slice A n c) L.length (E.all L)->E.Row w A L/\NewR N A L:=λhn ho=>by
  subst hn
  obtain⟨-,A',c',e,-,hr⟩:=Lies.Row.of_own ho
  cases e
  have hnew:=iB ho
  exact⟨h'.but.row (ApartR.new hr hnew (λj hj=>by cases hj;exact hl)),hnew.base (by omega)⟩
 refine⟨row hn h.own0,row hk h.own1,?_,?_,(hw.sets hS).base hN,?_⟩
 ·subst hs
  obtain⟨-,A',c',e,-,hr⟩:=Lies.Row.of_own h'.own0
  cases e
  exact⟨hr,(iB h'.own0).base (by have:=h.but.size;omega)⟩
 ·exact hR.below (hb.trans (hw.to hg h25))
 exact AoK h.own0
def TableMade (x:Tb.Table × Int) (w:World) (e:Ending) (w':World):Prop:=∃ m:TableM,m.t=x.1/\e=.returned (.tuple #[tbV m,.int .i64 x.2])/\TableFar w.heap.size w' m/\Below w.heap.size w w'
theorem TableMade.yes {x:Tb.Table × Int} {w:World} {e:Ending} {w':World} (h:TableMade x w e w'):AmA x w e w':=by
 obtain⟨m,h1,h2,h3,h4⟩:=h
 exact⟨m,h1,h2,h3.in_,h4⟩
abbrev tbZ:Obj:=.cells #[.slice none 0 0,.slice none 0 0,.slice none 0 0,.int .i64 0,.slice none 0 0,.slice none 0 0] 34
theorem TableFar.zero (N:Nat) (w:World):TableFar N w ⟨none,0,none,0,none,0,none,0,none,0,Tb.zero⟩ :=
 ⟨⟨.inl rfl,λh=>absurd rfl h⟩,⟨.inl rfl,λh=>absurd rfl h⟩,⟨.inl rfl,λh=>absurd rfl h⟩,.nil _ _,.nil _ _,ArR _⟩
theorem sE {W:World} {B b:Nat} {v0 v1 v2 v3 v4 v5:Value} (h:b≠B) :
 ((((((W.setCell ⟨B,0,none⟩ v0).setCell ⟨B,1,none⟩ v1).setCell ⟨B,2,none⟩ v2).setCell ⟨B,3,none⟩ v3).setCell ⟨B,4,none⟩ v4).setCell ⟨B,5,none⟩ v5).heap[b]?=W.heap[b]?:=by
 repeat (rw[AsX _ _ _ _ h])
theorem eO {n:Nat} {w W:World} {B:Nat} {v0 v1 v2 v3 v4 v5:Value} (h:Below n w W) (hB:n<=B) :
 Below n w ((((((W.setCell ⟨B,0,none⟩ v0).setCell ⟨B,1,none⟩ v1).setCell ⟨B,2,none⟩ v2).setCell ⟨B,3,none⟩ v3).setCell ⟨B,4,none⟩ v4).setCell ⟨B,5,none⟩ v5) :=
 (((((h.setCell (p:=⟨B,0,none⟩) hB _).setCell (p:=⟨B,1,none⟩) hB _).setCell (p:=⟨B,2,none⟩) hB _).setCell (p:=⟨B,3,none⟩) hB _).setCell (p:=⟨B,4,none⟩) hB _).setCell (p:=⟨B,5,none⟩) hB _
theorem SetsNew.laid {N N':Nat} {w:World} {A:Option Addr} {R:List (List Nat)} (h:SetsNew N w A R) (hn:N'<=N) (o:Obj):SetsAp N' (w.alloc o) (some w.heap.size) A R :=
 ((h.next (ArR _)).below ((Below.refl _ _).alloc (ArR _) _)).base hn
theorem SetsNew.put6 {N N':Nat} {W:World} {A:Option Addr} {R:List (List Nat)} (h:SetsNew N W A R) {B:Nat} (hB:B<N) (hn:N'<=N) {v0 v1 v2 v3 v4 v5:Value}:SetsAp N' ((((((W.setCell ⟨B,0,none⟩ v0).setCell ⟨B,1,none⟩ v1).setCell ⟨B,2,none⟩ v2).setCell ⟨B,3,none⟩ v3).setCell ⟨B,4,none⟩ v4).setCell ⟨B,5,none⟩ v5) (some B) A R :=
 ((h.apart (k:=some B) (λj hj=>by cases hj;exact hB)).off (by simp) (λb _ hb=>sE hb)).base hn
theorem sF {W:World} {B:Nat} {x0 x1 x2 x3 x4 x5 v0 v1 v2 v3 v4 v5:Value} {t:TypeId} (h:W.heap[B]?=some (.cells #[x0,x1,x2,x3,x4,x5] t (0,0))) :
 ((((((W.setCell ⟨B,0,none⟩ v0).setCell ⟨B,1,none⟩ v1).setCell ⟨B,2,none⟩ v2).setCell ⟨B,3,none⟩ v3).setCell ⟨B,4,none⟩ v4).setCell ⟨B,5,none⟩ v5).heap[B]?=some (.cells #[v0,v1,v2,v3,v4,v5] t (0,0)) :=
 AtA _ _ _ _ _ _ (AtA _ _ _ _ _ _ (AtA _ _ _ _ _ _ (AtA _ _ _ _ _ _ (AtA _ _ _ _ _ _ (AtA _ _ _ _ _ _ h)))))
theorem TableMade.put {x:Tb.Table × Int} {w W:World} {N B:Nat} {m:TableM} {cs:Array Value} {fr:Nat × Nat} {v0 v1 v2 v3 v4 v5:Value} (hm:m.t=x.1) (h:TableFar N W m) (hB:W.heap[B]?=some (.cells cs 34 fr)) (hN:B<N) (hw:w.heap.size<=B) (hb:Below w.heap.size w W) :
 TableMade x w (.returned (.tuple #[tbV m,.int .i64 x.2])) ((((((W.setCell ⟨B,0,none⟩ v0).setCell ⟨B,1,none⟩ v1).setCell ⟨B,2,none⟩ v2).setCell ⟨B,3,none⟩ v3).setCell ⟨B,4,none⟩ v4).setCell ⟨B,5,none⟩ v5) :=
 ⟨m,hm,rfl,(h.off hB (by decide) hN (by simp) λb hb=>sE hb).base (by omega),eO hb hw⟩
open Go.RowKit
theorem gN {l:List UInt8} {p:Pl.Plan} (h:fY l=some p):Pl.Fit p/\Lp.Meas p/\(0<=p.ap/\p.ap<=1125899906842624)/\(0<=p.ho/\p.ho<=1099511627776):=by
 obtain⟨hf,L,hL,hS,e⟩:=oY h
 refine⟨hf,?_⟩
 rw[e]
 have h1:=Nr.ap_fin hL
 exact⟨Lp.meas_fin hL hS,⟨h1.1,by omega⟩,Rt.ho_fin hL⟩
namespace Rt
def Small (r:Route):Prop:=r.steps.length<=1000/\r.lap.length<=1000/\r.pts.length<=1000/\r.fl.length<=1000/\r.near.length<=1000
theorem AcE:Small zero:=⟨by decide,by decide,by decide,by decide,by decide⟩
theorem AcF {p:Pl.Plan} (hf:Pl.Fit p) {i:Nat} {w:Cr.Way} (hw:w∈(Cr.of p i).1):Small (fill p i w (Lp.of p i w).1):=by
 have h1:=Cr.of_steps hw
 have h2:=Lp.of_steps (p:=p) (i:=i) (w:=w)
 have h3:=Fl.of_len p (w.steps++(Lp.of p i w).1)
 have h4:=Dm.dK p (w.steps++(Lp.of p i w).1) (w.steps++(Lp.of p i w).1).length
 rw[List.take_length] at h4
 have h5:(w.steps++(Lp.of p i w).1).length=w.steps.length+(Lp.of p i w).1.length:=ArV
 have h6:=Nr.of_len hf (i:=(i:Int))
 refine⟨?_,?_,?_,?_,?_⟩
 ·show w.steps.length<=1000;omega
 ·show (Lp.of p i w).1.length<=1000;omega
 ·show (Fl.of p (w.steps++(Lp.of p i w).1)).pts.length<=1000;omega
 ·show (Fl.of p (w.steps++(Lp.of p i w).1)).fl.length<=1000;omega
 show ((Nr.of p i).1.map _).length<=1000;rw[AsH];omega
theorem AmF {p:Pl.Plan} (hf:Pl.Fit p) {i:Nat} {w:Cr.Way} (hw:w∈(Cr.of p i).1):Small (of p i w).1:=by
 by_cases h:(Lp.of p i w).2=0
 ·rw[of_ok h];exact AcF hf hw
 rw[of_bad h];exact AcE
theorem lI {p:Pl.Plan} (hf:Pl.Fit p):∀ r∈(all p).1,Small r:=all_each λ_ _ _ hw _=>AmF hf hw
end Rt
end Go.Proofs.YtjofpclmbjpgjaaGreat
