/- Lemmas. -/
import Derived.Test.YtncphjodaklleaaGreatMh25
set_option maxHeartbeats 16000000
set_option maxRecDepth 100000
namespace Go.Proofs.YtncphjodaklleaaGreat
open Lib (hid)
open Go.RowKit
theorem Cl.share_drop {L:List Wk.Stp} {j:Nat} {x:Wk.Stp} (h:L[j]?=some x) (M:List Wk.Stp):Cl.share (L.drop j) M=(Wk.within M x.s || Cl.share (L.drop (j+1)) M):=by
 obtain ⟨hj,rfl⟩:=ArO h
 rw [List.drop_eq_getElem_cons hj]
 unfold Cl.share
 rw [List.any_cons]
theorem jI (A:Option Addr) (c:Nat) (L:List Wk.Stp) (A':Option Addr) (c':Nat) (M:List Wk.Stp) (w:World) (h:aE.Row w A L) (hl:L.length<=1000000) (h':aE.Row w A' M) (hl':M.length<=1000000) :
 Calls Tryz.prog 66 #[.slice A L.length c,.slice A' M.length c'] w (OneIs (.bool (Cl.share L M)) w):=by
 --[
 have B0:=hid (AuN w)
 have HR:=hid h
 have CP:=hid (λW (hb:Below w.heap.size w W) k=>bH A' c' M k W (h'.below rfl hb) hl')
 generalize hq:Cl.share L M=q
 have HQ:=hid hq
 clear h hq h' hl'
 go_enter Tryz.func66,Tryz.ntmps66
 go_wp2_with fail
 go_loopw [5] (λv w'=>∃ j:Nat,j<=L.length/\v=.int .i64 j/\Cl.share (L.drop j) M=q/\Below w.heap.size w w') (λv _=>L.length-(intOf v).toNat)
 case atStart=>exact ⟨0,AsF _,rfl,by rw[List.drop_zero];exact HQ.out,B0.out⟩
 case round =>
  obtain ⟨j,hj,rfl,hp,hb⟩:=hrel
  by_cases hlt:j<L.length
  ·have hy:=ArP hlt
   have HB:=hid hb
   obtain ⟨b,o,rfl,hbb,on⟩:=(HR.out.below rfl hb).at hlt
   generalize L[j]=x at hy on
   obtain ⟨c0,c1,c2⟩:=bO on
   rw [show j*aE.m=j*3 from rfl] at c0 c1 c2
   rw [Cl.share_drop hy] at hp
   have d1:decide ((j:Int)<(L.length:Int))=true:=aC (by omega)
   have i0:(0:Int)<=(j:Int):=ArV j
   have i1:(j:Int)<(L.length:Int):=by omega
   have C:=hid (CP.out _ hb x.s)
   generalize Wk.within M x.s=z at C hp
   have HP:=hid hp
   clear hb hy on hp
   go_wp2_with fail
   refine C.out.mono ?_;rintro e w1 ⟨rfl,rfl⟩
   cases z with
   | true =>
     go_wp2
     go_ret
     exact ⟨by rw[<-HP.out] <;> rfl,HB.out⟩
   | false =>
     have HP2:=hid (show Cl.share (L.drop (j+1)) M=q from HP.out)
     go_wp2
     go_roundw
     case rel=>exact ⟨j+1,by omega,by go_num,HP2.out,HB.out⟩
     case measure=>simp [intOf];omega
  obtain rfl:j=L.length:=by omega
  have d1:decide ((L.length:Int)<(L.length:Int))=false:=aB (by omega)
  rw [List.drop_length] at hp
  have HP:=hid (show false=q from hp)
  have HB:=hid hb
  clear hp hb
  go_wp2
  go_ret
  exact ⟨by rw[<-HP.out] <;> rfl,HB.out⟩
 --]
theorem gP (w:World) (a b:Obj):((w.alloc a).alloc b).heap[w.heap.size]?=some a/\((w.alloc a).alloc b).heap[w.heap.size+1]?=some b/\Below w.heap.size w ((w.alloc a).alloc b):=by
 have s1:(w.alloc a).heap.size=w.heap.size+1:=by simp
 refine ⟨?_,?_,((Below.refl _ _).alloc (ArT _) _).alloc (by omega) _⟩
 ·rw[heap_alloc_old _ _ (by omega)];exact AuH _ _
 rw [<-s1];exact AuH _ _
theorem Cl.meets_eq (r s:Rt.Route):Cl.meets r s=((decide (r.exit<0) || (r.exit != s.entry)) && (Cl.share r.lap s.steps || Cl.share r.lap s.lap)):=by
 unfold Cl.meets Cl.leads
 congr 1
 by_cases h:r.exit<0
 ·rw[aC h,aB (p:=0<=r.exit) (by omega)];rfl
 rw [aB h,aC (p:=0<=r.exit) (by omega)];rfl
theorem Cl.bars_eq (r s:Rt.Route):Cl.bars r s=((r.entry == s.entry) || Cl.share r.steps s.steps || Cl.meets r s || Cl.meets s r || Dm.opposed r.pts s.pts || Dm.opposed s.pts r.pts):=by
 unfold Cl.bars Cl.opp
 generalize (r.entry == s.entry)=a
 generalize Cl.share r.steps s.steps=b
 generalize Cl.meets r s=c
 generalize Cl.meets s r=d
 generalize Dm.opposed r.pts s.pts=e
 generalize Dm.opposed s.pts r.pts=f
 revert a b c d e f
 decide
theorem pN (m m':RouteM) (w:World) (h:PartsIn w m) (h':PartsIn w m') (hl:m.r.lap.length<=1000000) (hs':m'.r.steps.length<=1000000) (hl':m'.r.lap.length<=1000000) :
 Calls Tryz.prog 67 #[rtV m,rtV m'] w (OneIs (.bool (Cl.meets m.r m'.r)) w):=by
 --[
 obtain ⟨R1,R2,XX⟩:=gP w (rtO m) (rtO m')
 have X:=hid XX
 have C1:=hid (λW (hW:Below ((w.alloc (rtO m)).alloc (rtO m')).heap.size ((w.alloc (rtO m)).alloc (rtO m')) W)=>jI m.A2 m.c2 m.r.lap m'.A1 m'.c1 m'.r.steps W ((h.below XX).p2.below rfl hW) hl ((h'.below XX).p1.below rfl hW) hs')
 have C2:=hid (λW (hW:Below ((w.alloc (rtO m)).alloc (rtO m')).heap.size ((w.alloc (rtO m)).alloc (rtO m')) W)=>jI m.A2 m.c2 m.r.lap m'.A2 m'.c2 m'.r.lap W ((h.below XX).p2.below rfl hW) hl ((h'.below XX).p2.below rfl hW) hl')
 rw [Cl.meets_eq]
 generalize hz0:decide (m.r.exit<0)=z0
 generalize hzx:(m.r.exit != m'.r.entry)=zx
 generalize Cl.share m.r.lap m'.r.steps=z1 at C1 ⊢
 generalize Cl.share m.r.lap m'.r.lap=z2 at C2 ⊢
 clear h h' XX
 go_enter Tryz.func67,Tryz.ntmps67
 go_upto_region 1 with fail
 generalize (w.alloc (rtO m)).alloc (rtO m')=w2 at X R1 R2 C1 C2 ⊢
 generalize w.heap.size+1=g2 at R2 ⊢
 generalize hg:w.heap.size=g at R1 ⊢
 obtain ⟨⟨p0,p1,p2,p3,p4,p5,p6,p7,p8⟩,-,gx⟩:=row9 R1
 obtain ⟨⟨q0,q1,q2,q3,q4,q5,q6,q7,q8⟩,-,gy⟩:=row9 R2
 have K:=hid (λW (hW:Below w2.heap.size w2 W)=>AsX (AsX ((hW.cell (p:=⟨g,3,none⟩) gx).trans p3) ((hW.cell (p:=⟨g2,2,none⟩) gy).trans q2)) ((hW.cell (p:=⟨g2,3,none⟩) gy).trans q3))
 have X2:=hid (AuN w2)
 clear hg R1 R2 hl hs' hl' p2 p4 p5 p6 p7 p8 q1 q4 q5 q6 q7 q8 gx gy
 cases z0 with
 | true =>
   go_wp2_with fail
   refine (C1.out _ X2.out).mono ?_;rintro e w4 ⟨rfl,hb4⟩
   have B4:=hid hb4
   have F4:=hid (X.out.trans (hb4.mono X.out.size))
   clear hb4 p0 p1 p3 q0 q2 q3 C1 hz0
   obtain ⟨⟨k3,k2⟩,k4⟩:=K.out _ B4.out
   cases z1 with
   | true =>
     go_wp2
     go_ret
     exact ⟨rfl,F4.out⟩
   | false =>
     go_wp2_with fail
     refine (C2.out _ B4.out).mono ?_;rintro e w5 ⟨rfl,hb5⟩
     have F5:=hid (F4.out.trans (hb5.mono F4.out.size))
     clear hb5
     go_wp2
     go_ret
     exact ⟨rfl,F5.out⟩
 | false =>
   cases zx with
   | false =>
     go_wp2
     go_ret
     exact ⟨rfl,X.out⟩
   | true =>
     go_wp2_with fail
     refine (C1.out _ X2.out).mono ?_;rintro e w4 ⟨rfl,hb4⟩
     have B4:=hid hb4
     have F4:=hid (X.out.trans (hb4.mono X.out.size))
     clear hb4 p0 p1 p3 q0 q2 q3 C1 hz0 hzx
     obtain ⟨⟨k3,k2⟩,k4⟩:=K.out _ B4.out
     cases z1 with
     | true =>
       go_wp2
       go_ret
       exact ⟨rfl,F4.out⟩
     | false =>
       go_wp2_with fail
       refine (C2.out _ B4.out).mono ?_;rintro e w5 ⟨rfl,hb5⟩
       have F5:=hid (F4.out.trans (hb5.mono F4.out.size))
       clear hb5
       go_wp2
       go_ret
       exact ⟨rfl,F5.out⟩
 --]
theorem AcF (m m':RouteM) (w:World) (h:PartsIn w m) (h':PartsIn w m') (ht:Cl.Tiny m.r) (ht':Cl.Tiny m'.r) :
 Calls Tryz.prog 39 #[rtV m,rtV m'] w (OneIs (.bool (Cl.bars m.r m'.r)) w):=by
 --[
 obtain ⟨hs,hl,hp⟩:=ht
 obtain ⟨hs',hl',hp'⟩:=ht'
 obtain ⟨R1,R2,XX⟩:=gP w (rtO m) (rtO m')
 have X:=hid XX
 have P:=hid (h.below XX)
 have P':=hid (h'.below XX)
 have C1:=hid (λW (hW:Below ((w.alloc (rtO m)).alloc (rtO m')).heap.size ((w.alloc (rtO m)).alloc (rtO m')) W)=>jI m.A1 m.c1 m.r.steps m'.A1 m'.c1 m'.r.steps W (P.out.p1.below rfl hW) hs (P'.out.p1.below rfl hW) hs')
 have C2:=hid (λW (hW:Below ((w.alloc (rtO m)).alloc (rtO m')).heap.size ((w.alloc (rtO m)).alloc (rtO m')) W)=>pN m m' W (P.out.below hW) (P'.out.below hW) hl hs' hl')
 have C3:=hid (λW (hW:Below ((w.alloc (rtO m)).alloc (rtO m')).heap.size ((w.alloc (rtO m)).alloc (rtO m')) W)=>pN m' m W (P'.out.below hW) (P.out.below hW) hl' hs hl)
 have C4:=hid (λW (hW:Below ((w.alloc (rtO m)).alloc (rtO m')).heap.size ((w.alloc (rtO m)).alloc (rtO m')) W)=>iO m.A3 m.c3 m.r.pts m'.A3 m'.c3 m'.r.pts W (P.out.p3.below rfl hW) hp (P'.out.p3.below rfl hW) hp')
 have C5:=hid (λW (hW:Below ((w.alloc (rtO m)).alloc (rtO m')).heap.size ((w.alloc (rtO m)).alloc (rtO m')) W)=>iO m'.A3 m'.c3 m'.r.pts m.A3 m.c3 m.r.pts W (P'.out.p3.below rfl hW) hp' (P.out.p3.below rfl hW) hp)
 rw [Cl.bars_eq]
 generalize hz:(m.r.entry == m'.r.entry)=z0
 have HZ:=hid hz
 generalize Cl.share m.r.steps m'.r.steps=z1 at C1 ⊢
 generalize Cl.meets m.r m'.r=z2 at C2 ⊢
 generalize Cl.meets m'.r m.r=z3 at C3 ⊢
 generalize Dm.opposed m.r.pts m'.r.pts=z4 at C4 ⊢
 generalize Dm.opposed m'.r.pts m.r.pts=z5 at C5 ⊢
 clear h h' XX hz
 go_enter Tryz.func39,Tryz.ntmps39
 go_upto_region 1 with fail
 generalize (w.alloc (rtO m)).alloc (rtO m')=w2 at X P P' R1 R2 C1 C2 C3 C4 C5 ⊢
 generalize w.heap.size+1=g2 at R2 ⊢
 generalize hg:w.heap.size=g at R1 ⊢
 have X2:=hid (AuN w2)
 have gx:=(row9 R1).2.2
 have gy:=(row9 R2).2.2
 have K:=hid (λW (hW:Below w2.heap.size w2 W)=>AsX (row9 ((hW.block _ gx).trans R1)).1 (row9 ((hW.block _ gy).trans R2)).1)
 clear hg R1 R2 hl hs' hl' hs hp hp' gx gy
 obtain ⟨⟨p0,p1,p2,p3,p4,p5,p6,p7,p8⟩,q0,q1,q2,q3,q4,q5,q6,q7,q8⟩:=K.out _ X2.out
 have hz:=HZ.out
 clear HZ
 cases z0 with
 | true =>
   go_wp2
   go_ret
   exact ⟨rfl,X.out⟩
 | false =>
   go_wp2_with fail
   refine (C1.out _ X2.out).mono ?_;rintro e w3 ⟨rfl,hb⟩
   have B1:=hid (hb)
   have F1:=hid (X.out.trans (hb.mono X.out.size))
   clear hb p0 p1 p2 p3 p4 p5 p6 p7 p8 q0 q1 q2 q3 q4 q5 q6 q7 q8 hz C1
   cases z1 with
   | true =>
     go_wp2
     go_ret
     exact ⟨rfl,F1.out⟩
   | false =>
     obtain ⟨⟨p0,p1,p2,p3,p4,p5,p6,p7,p8⟩,q0,q1,q2,q3,q4,q5,q6,q7,q8⟩:=K.out _ B1.out
     go_wp2_with fail
     refine (C2.out _ B1.out).mono ?_;rintro e w4 ⟨rfl,hb⟩
     have B2:=hid (B1.out.trans (hb.mono B1.out.size))
     have F2:=hid (F1.out.trans (hb.mono F1.out.size))
     clear hb p0 p1 p2 p3 p4 p5 p6 p7 p8 q0 q1 q2 q3 q4 q5 q6 q7 q8 C2 B1 F1
     cases z2 with
     | true =>
       go_wp2
       go_ret
       exact ⟨rfl,F2.out⟩
     | false =>
       obtain ⟨⟨p0,p1,p2,p3,p4,p5,p6,p7,p8⟩,q0,q1,q2,q3,q4,q5,q6,q7,q8⟩:=K.out _ B2.out
       go_wp2_with fail
       refine (C3.out _ B2.out).mono ?_;rintro e w5 ⟨rfl,hb⟩
       have B3:=hid (B2.out.trans (hb.mono B2.out.size))
       have F3:=hid (F2.out.trans (hb.mono F2.out.size))
       clear hb p0 p1 p2 p3 p4 p5 p6 p7 p8 q0 q1 q2 q3 q4 q5 q6 q7 q8 C3 B2 F2
       cases z3 with
       | true =>
         go_wp2
         go_ret
         exact ⟨rfl,F3.out⟩
       | false =>
         obtain ⟨⟨p0,p1,p2,p3,p4,p5,p6,p7,p8⟩,q0,q1,q2,q3,q4,q5,q6,q7,q8⟩:=K.out _ B3.out
         go_wp2_with fail
         refine (C4.out _ B3.out).mono ?_;rintro e w6 ⟨rfl,hb⟩
         have B4:=hid (B3.out.trans (hb.mono B3.out.size))
         have F4:=hid (F3.out.trans (hb.mono F3.out.size))
         clear hb p0 p1 p2 p3 p4 p5 p6 p7 p8 q0 q1 q2 q3 q4 q5 q6 q7 q8 C4 B3 F3
         cases z4 with
         | true =>
           go_wp2
           go_ret
           exact ⟨rfl,F4.out⟩
         | false =>
           obtain ⟨⟨p0,p1,p2,p3,p4,p5,p6,p7,p8⟩,q0,q1,q2,q3,q4,q5,q6,q7,q8⟩:=K.out _ B4.out
           go_wp2_with fail
           refine (C5.out _ B4.out).mono ?_;rintro e w7 ⟨rfl,hb⟩
           have B5:=hid (B4.out.trans (hb.mono B4.out.size))
           have F5:=hid (F4.out.trans (hb.mono F4.out.size))
           clear hb p0 p1 p2 p3 p4 p5 p6 p7 p8 q0 q1 q2 q3 q4 q5 q6 q7 q8 C5 B4 F4
           go_wp2
           go_ret
           exact ⟨rfl,F5.out⟩
 --]
theorem ApartR.moved {α:Type} {E:Lies α} {w w':World} {k k':Option Nat} {A:Option Addr} {L:List α} (h:ApartR E w k A L) (hg:w.grownBy w' k) (hk:∀ j,k'=some j->k=some j∨w.heap.size<=j):ApartR E w' k' A L:=by
 have h1:=h.grown hg
 refine ⟨h1.1,λhL a ha=>⟨λe=>?_,(h1.2 hL a ha).2⟩⟩
 rcases hk _ e with h2|h2
 ·exact (h.2 hL a ha).1 h2
 have:=(h.2 hL a ha).2;omega
theorem uV {w:World} {base base':Nat} {e:TypeId} {size:Nat} {v:Value} {n:Nat} {xs:List Value} (h:w.ownsRow base e size v n xs) (hb:base'<=base):w.ownsRow base' e size v n xs:=by
 refine ⟨h.1,h.2.imp id ?_⟩
 rintro ⟨g,cap,cur,rfl,h1,h2⟩
 exact ⟨g,cap,cur,rfl,ArU hb h1,h2⟩
structure OwnSets (base:Nat) (w:World) (v:Value) (R:List (List Nat)):Prop where
 ex:∃ M:List SetM,M.map SetM.L=R/\w.ownsRow base 67 fW.m v R.length (fW.all M)/\∀ m∈M,ApartR LWd w v.ownBlock m.A m.L/\NewR base m.A m.L
theorem OwnSets.nil (w:World) (base:Nat):OwnSets base w (.slice none 0 0) []:=⟨[],rfl,World.ownsRow_nil _ _ _ _,λ_ h=>by cases h⟩
theorem OwnSets.below {base:Nat} {w w':World} {v:Value} {R:List (List Nat)} (h:OwnSets base w v R) (hb:Below w.heap.size w w'):OwnSets base w' v R:=by
 obtain ⟨M,h1,h2,h3⟩:=h
 exact ⟨M,h1,aA h2 hb,λm hm=>⟨(h3 m hm).1.below hb,(h3 m hm).2⟩⟩
theorem OwnSets.lt {base:Nat} {w:World} {v:Value} {R:List (List Nat)} (h:OwnSets base w v R) {j:Nat} (hj:v.ownBlock=some j):j<w.heap.size:=by
 obtain ⟨M,-,h2,-⟩:=h
 exact (h2.lt j hj).2
theorem OwnSets.sets {base:Nat} {w:World} {v:Value} {R:List (List Nat)} (h:OwnSets base w v R):∃ A c,v=.slice A R.length c/\SetsNew base w A R:=by
 obtain ⟨M,h1,h2,h3⟩:=h
 obtain ⟨-,A,c,rfl,-,hR⟩:=Lies.Row.of_own (E:=fW) h2
 exact ⟨A,c,rfl,M,h1,⟨hR,iE h2⟩,λm hm=>⟨(h3 m hm).1.1,(h3 m hm).2⟩⟩
theorem AhO {w:World} {base:Nat} {v:Value} {L:List Nat} (h:w.ownsRow base 72 LWd.m v L.length (LWd.all L)) {k:Option Nat} (hk:∀ j,k=some j->j<base):∃ A c,v=.slice A L.length c/\ApartR LWd w k A L/\NewR base A L:=by
 obtain ⟨-,A,c,rfl,-,hR⟩:=Lies.Row.of_own (E:=LWd) h
 have hn:=iE h
 exact ⟨A,c,rfl,ApartR.new hR hn hk,hn⟩
theorem Cl.ofL_snoc {n x:Int} (h:x<n) (l:List Int):Bs.ofL n (l++[x])=Bs.put (Bs.ofL n l) x:=by
 unfold Bs.ofL
 rw [List.foldl_append,List.foldl_cons,List.foldl_nil,AsB h]
theorem ApD {w W:World} {b o:Nat} {m:RouteM} (hW:Below w.heap.size w W) (hb:b<w.heap.size) (h:LRt.On w b o m):LRt.On W b o m:=λj v hv=>(hW.cell (p:=⟨b,o+j,none⟩) hb).trans (h j v hv)
theorem AmD {L:List Rt.Route} {k:Nat} {y:Rt.Route} (h:L[k]?=some y):L.getD k Rt.zero=y:=by rw[List.getD_eq_getElem?_getD,h];rfl
theorem uW (A:Option Addr) (c:Nat) (L:List Rt.Route) (w:World) (h:RoutesIn w A L) (hs:∀ r∈L,Cl.Tiny r) (hl:L.length<=1000000) :
 Calls Tryz.prog 18 #[.slice A L.length c] w (SetsMade (Cl.rows L) w):=by
 --[
 have HR:=hid h
 have HS:=hid hs
 have B0:=hid (AuN w)
 have RL:=hid (Cl.rows_len L)
 have O0:=hid (show OwnSets w.heap.size w (.slice none 0 0) ((Cl.rows L).take 0) from OwnSets.nil w w.heap.size)
 have CN:=hid (λW=>AhN (L.length:Int) W (by omega))
 clear h hs
 go_enter Tryz.func18,Tryz.ntmps18
 go_wp2_with fail
 go_loopw [3,4,5,6] (λv3 v4 _ _ w'=>∃ i:Nat,i<=L.length/\v4=.int .i64 i/\OwnSets w.heap.size w' v3 ((Cl.rows L).take i)/\Below w.heap.size w w') (λ_ v4 _ _ _=>L.length-(intOf v4).toNat)
 case atStart=>exact ⟨0,AsF _,rfl,O0.out,B0.out⟩
 case round =>
  obtain ⟨i,hi,rfl,hO,hb⟩:=hrel
  have HB:=hid hb
  have HO:=hid hO
  clear hO hb
  by_cases hlt:i<L.length
  ·have d1 : decide ((i:Int)<(L.length:Int))=true:=aC (by omega)
   have i0:(0:Int)<=(i:Int):=ArV i
   have i1:(i:Int)<(L.length:Int):=by omega
   have T0:=hid (AuN wr)
   go_wp2_with fail
   refine (CN.out _).mono ?_;rintro e w2 ⟨v,rfl,ho2,hb2⟩
   have O2:=hid (show w2.ownsRow wr.heap.size 72 LWd.m v (Bs.ofL (L.length:Int) (Cl.barred L i 0)).length (LWd.all (Bs.ofL (L.length:Int) (Cl.barred L i 0))) from ho2)
   have B2:=hid hb2
   clear ho2 hb2
   go_wp2_with fail
   go_loopw [5,6] (λv5 v6 w'=>∃ k:Nat,k<=L.length/\v6=.int .i64 k/\w'.ownsRow wr.heap.size 72 LWd.m v5 (Bs.ofL (L.length:Int) (Cl.barred L i k)).length (LWd.all (Bs.ofL (L.length:Int) (Cl.barred L i k)))/\Below wr.heap.size wr w') (λ_ v6 _=>L.length-(intOf v6).toNat)
   case atStart=>exact ⟨0,AsF _,rfl,O2.out,B2.out⟩
   case round =>
    clear O2 B2
    obtain ⟨k,hk,rfl,ho,hb⟩:=hrel
    have HBk:=hid hb
    have HOk:=hid ho
    by_cases hkl:k<L.length
    ·have d2:decide ((k:Int)<(L.length:Int))=true:=aC (by omega)
     have k0:(0:Int)<=(k:Int):=ArV k
     have k1:(k:Int)<(L.length:Int):=by omega
     have hbw:=HB.out.trans (hb.mono HB.out.size)
     have hya:=ArP hlt
     have hyk:=ArP hkl
     obtain ⟨b,o,m1,rfl,hbb,h1,on1,P1⟩:=(HR.out.below hbw).at hya
     obtain ⟨b',o',m2,hA,-,h2,on2,P2⟩:=(HR.out.below hbw).at hyk
     cases hA
     have hH:Cl.hit L i k=(decide (k≠i) && Cl.bars m1.r m2.r):=by
      unfold Cl.hit
      rw [AmD hya,AmD hyk,h1,h2]
     have t1:=HS.out _ (List.getElem_mem hlt)
     have t2:=HS.out _ (List.getElem_mem hkl)
     rw [<-h1] at t1
     rw [<-h2] at t2
     have HT:=hid (Cl.barred_succ L i k)
     rw [hH] at HT
     have CB:=hid (λW (hW:Below wr.heap.size wr W)=>AcF m1 m2 W (P1.below hW) (P2.below hW) t1 t2)
     generalize hzz:Cl.bars m1.r m2.r=z at HT CB
     have V0:=hid (AuN wr)
     have KS:=hid (λW (hW:Below wr.heap.size wr W)=>AsX (mE (ApD hW hbb on1)) (mE (ApD hW hbb on2)))
     clear hzz hH hya hyk h1 h2 t1 t2 P1 P2 on1 on2 hbb hbw ho hb
     by_cases hka:k=i
     ·have E:((k:Int) != (i:Int))=false:=by rw[bne_eq_false_iff_eq];omega
      have HT2:=hid (show Cl.barred L i (k+1)=Cl.barred L i k from by have:=HT.out;rwa [decide_eq_false (p:=k≠i) (λh=>h hka),Bool.false_and,AsA (by decide),AtX] at this)
      clear hka
      go_upto_region 9 with fail
      go_quiet (fail)
      go_wp2
      go_roundw
      case rel=>exact ⟨k+1,by omega,by go_num,by rw[HT2.out];exact aA HOk.out (aI V0.out _),aI HBk.out _⟩
      case measure=>simp [intOf];omega
     have E:((k:Int) != (i:Int))=true:=by rw[AuG];omega
     have HT2:=hid (show Cl.barred L i (k+1)=Cl.barred L i k++if z=true then [(k:Int)] else [] from by have:=HT.out;rwa [decide_eq_true (p:=k≠i) hka,Bool.true_and] at this)
     clear hka
     go_upto_region 9 with fail
     go_region_held3 (λW'=>(W'.cell? ⟨b,o+i*9,none⟩=some (.int .i64 m1.r.entry)/\W'.cell? ⟨b,o+i*9+1,none⟩=some (.int .i64 m1.r.exit)/\W'.cell? ⟨b,o+i*9+2,none⟩=some (.slice m1.A1 m1.r.steps.length m1.c1)/\W'.cell? ⟨b,o+i*9+3,none⟩=some (.slice m1.A2 m1.r.lap.length m1.c2)/\W'.cell? ⟨b,o+i*9+4,none⟩=some (.slice m1.A3 m1.r.pts.length m1.c3)/\W'.cell? ⟨b,o+i*9+5,none⟩=some (.slice m1.A4 m1.r.fl.length m1.c4)/\W'.cell? ⟨b,o+i*9+6,none⟩=some (.slice m1.A5 m1.r.near.length m1.c5)/\W'.cell? ⟨b,o+i*9+7,none⟩=some (.int .i64 m1.r.dist)/\W'.cell? ⟨b,o+i*9+8,none⟩=some (.int .i64 m1.r.timer))/\(W'.cell? ⟨b,o+k*9,none⟩=some (.int .i64 m2.r.entry)/\W'.cell? ⟨b,o+k*9+1,none⟩=some (.int .i64 m2.r.exit)/\W'.cell? ⟨b,o+k*9+2,none⟩=some (.slice m2.A1 m2.r.steps.length m2.c1)/\W'.cell? ⟨b,o+k*9+3,none⟩=some (.slice m2.A2 m2.r.lap.length m2.c2)/\W'.cell? ⟨b,o+k*9+4,none⟩=some (.slice m2.A3 m2.r.pts.length m2.c3)/\W'.cell? ⟨b,o+k*9+5,none⟩=some (.slice m2.A4 m2.r.fl.length m2.c4)/\W'.cell? ⟨b,o+k*9+6,none⟩=some (.slice m2.A5 m2.r.near.length m2.c5)/\W'.cell? ⟨b,o+k*9+7,none⟩=some (.int .i64 m2.r.dist)/\W'.cell? ⟨b,o+k*9+8,none⟩=some (.int .i64 m2.r.timer)))
      (first|with_reducible exact KS.out _ V0.out.drew|with_reducible exact KS.out _ h5|(go_keep;done))
      (first|(go_at_call 39;(with_reducible refine (CB.out _ V0.out.drew).mono ?_);rintro e5 w5 ⟨rfl,hb5⟩;have h5:=V0.out.drew.trans (hb5.mono V0.out.drew.size)))
     have B5:=hid (HBk.out.trans (h5.mono HBk.out.size))
     have O5:=hid (aA HOk.out h5)
     clear KS CB h5
     cases z with
     | false =>
       go_wp2
       go_roundw
       case rel=>exact ⟨k+1,by omega,by go_num,by rw[HT2.out,AsA (by decide),AtX];exact O5.out,B5.out⟩
       case measure=>simp [intOf];omega
     | true =>
       have HP:=hid (show Bs.ofL (L.length:Int) (Cl.barred L i (k+1))=Bs.put (Bs.ofL (L.length:Int) (Cl.barred L i k)) (k:Int) from by rw[HT2.out,AsB rfl,Cl.ofL_snoc (by omega)])
       have hW:=Bs.W32.ofL (L.length:Int) (Cl.barred L i k)
       have hML:(Bs.ofL (L.length:Int) (Cl.barred L i k)).length<=1000000:=by
        rw [Bs.ofL_len,Bs.new_len]
        split <;> omega
       generalize Bs.ofL (L.length:Int) (Cl.barred L i k)=X at HOk O5 HP hW hML
       obtain ⟨-,Bx,dx,rfl,-,hRx⟩:=Lies.Row.of_own (E:=LWd) O5.out
       have CW:=hid (AcD Bx dx X (k:Int) w5 (by omega) hRx hW hML)
       clear hRx hW hML
       go_wp2_with fail
       refine CW.out.mono ?_;rintro e w6 ⟨v6,rfl,ho6,hb6⟩
       have B6:=hid (B5.out.trans (hb6.mono B5.out.size))
       have O6:=hid (uV ho6 B5.out.size)
       clear ho6 hb6
       go_wp2
       go_roundw
       case rel=>exact ⟨k+1,by omega,by go_num,by rw[HP.out];exact O6.out,B6.out⟩
       case measure=>simp [intOf];omega
    obtain rfl:k=L.length:=by omega
    have d2:decide ((L.length:Int)<(L.length:Int))=false:=aB (by omega)
    have hlt1:((Cl.rows L).take i).length=i:=by rw[AuF,RL.out];omega
    obtain ⟨Ax,cx,rfl,hAx,hAn⟩:=AhO (L:=Cl.row L i) ho (λj hj=>HO.out.lt hj)
    obtain ⟨M,hM1,hM2,hM3⟩:=HO.out.below hb
    have HM:=hid (AsX hM1 hM3)
    rw [hlt1] at hM2
    have HAX:=hid hAx
    have HAN:=hid (hAn.base HB.out.size)
    have HTK:=hid (Cl.rows_take L hlt)
    have HO1:=hid (hM2.alloc (.cells #[.slice Ax (Cl.row L i).length cx] 67))
    have HR1:=hid (show fW.Row (wr.alloc (.cells #[.slice Ax (Cl.row L i).length cx] 67)) (some ⟨wr.heap.size,0,none⟩) [⟨Ax,cx,Cl.row L i⟩] from Lies.Row.fresh (E:=fW) wr [⟨Ax,cx,Cl.row L i⟩] 67)
    have X7:=hid ((AuN wr).alloc (ArT _) (.cells #[.slice Ax (Cl.row L i).length cx] 67))
    have hbw:=HB.out.trans (hb.mono HB.out.size)
    have HBW:=hid hbw
    have HSZ:=hbw.size
    obtain ⟨j0,hi',hz0,hz1,hz2⟩:=info_parts AeR
    clear hM1 hM2 hM3 hAx hAn hb ho hbw HOk
    go_wp2_with (at_builtin;refine aG fW _ rfl (.tmp 39) (.tmp 41) 32 rfl w.heap.size 67 j0 _ 24 Tryz.underlying32 hi' hz0 hz1 hz2 rfl u3 i (fW.all M) rfl HO1.out (some ⟨wr.heap.size,0,none⟩) 1 1 [⟨Ax,cx,Cl.row L i⟩] rfl (by decide) rfl HR1.out (by omega) (by omega) (by simp;omega) ?_;intro g1 cap1 w8 hown hg1 hgr;have HN:=hid hown;have HG:=hid hg1;have HGR:=hid hgr;clear hown hg1 hgr)
    have S8:=hid (show OwnSets w.heap.size w8 (.slice (some ⟨g1,0,none⟩) (i+1) cap1) ((Cl.rows L).take (i+1)) from by
     have mv:∀ {B:Option Addr} {K:List Nat},ApartR LWd wr u3.ownBlock B K->ApartR LWd w8 (Value.slice (some ⟨g1,0,none⟩) (i+1) cap1).ownBlock B K:=λh=>(h.below X7.out).moved HG.out λj hj=>by
      cases hj
      rcases HGR.out with h|h
      ·exact .inl h
      exact .inr (by rw[h];exact ArT _)
     rw [HTK.out]
     refine ⟨M++[⟨Ax,cx,Cl.row L i⟩],by rw[List.map_append,HM.out.1];rfl,?_,λm hm=>?_⟩
     ·rw [ArX,hlt1,fW.all_append]
      exact HN.out
     rcases ArY.1 hm with hm|hm
     ·exact ⟨mv (HM.out.2 m hm).1,(HM.out.2 m hm).2⟩
     rw [AuD.1 hm]
     exact ⟨mv HAX.out,HAN.out⟩)
    have B8:=hid ((HBW.out.trans (X7.out.mono HBW.out.size)).grown HG.out (HBW.out.trans (X7.out.mono HBW.out.size)).size λj hj=>(HO1.out.lt j hj).1)
    go_roundw
    case rel=>exact ⟨i+1,by omega,by go_num,S8.out,B8.out⟩
    case measure=>simp [intOf];omega
  obtain rfl:i=L.length:=by omega
  have d1:decide ((L.length:Int)<(L.length:Int))=false:=aB (by omega)
  have HF:=HO.out
  rw [<-RL.out,List.take_length] at HF
  obtain ⟨Ax,cx,rfl,hS⟩:=HF.sets
  have HSX:=hid hS
  clear hS HF
  go_wp2
  go_ret
  exact ⟨Ax,cx,rfl,HSX.out,HB.out⟩
 --]
theorem uX (A:Option Addr) (c:Nat) (L:List Rt.Route) (w:World) (h:RoutesIn w A L) (hs:∀ r∈L,Cl.Tiny r) (hl:L.length<=1000000) :
 Calls Tryz.prog 18 #[.slice A L.length c] w (nR (Cl.rows L) w):=(uW A c L w h hs hl).mono λ_ _ h=>h.yes
theorem Cl.sets_drop {R:List (List Nat)} {j:Nat} {x:List Nat} (h:R[j]?=some x) {S:List (List Nat)} {y:List Nat} (h':S[j]?=some y):(R.drop j=S.drop j) ↔ x=y/\R.drop (j+1)=S.drop (j+1):=by
 obtain ⟨h1,rfl⟩:=ArO h
 obtain ⟨h2,rfl⟩:=ArO h'
 rw [List.drop_eq_getElem_cons h1,List.drop_eq_getElem_cons h2,List.cons.injEq]
theorem AcG (A:Option Addr) (c:Nat) (R:List (List Nat)) (A':Option Addr) (c':Nat) (S:List (List Nat)) (w:World) (h:SetsIn w A R) (hl:∀ x∈R,x.length<=1000000) (h':SetsIn w A' S) (hR:R.length<=1000000) :
 Calls Tryz.prog 17 #[.slice A R.length c,.slice A' S.length c'] w (OneIs (.bool (decide (R=S))) w):=by
 --[
 have B0:=hid (AuN w)
 have HR:=hid h
 have HS:=hid h'
 have HL:=hid hl
 clear h h' hl
 by_cases hn:R.length=S.length
 ·have E : ((R.length:Int) != (S.length:Int))=false:=by rw[bne_eq_false_iff_eq];omega
  generalize hq:decide (R=S)=q
  have HQ:=hid (show decide (R.drop 0=S.drop 0)=q from by rw[List.drop_zero,List.drop_zero];exact hq)
  clear hq
  have HN:=hid hn
  clear hn
  go_enter Tryz.func17,Tryz.ntmps17
  go_wp2_with fail
  go_loopw [5] (λv w'=>∃ j:Nat,j<=R.length/\v=.int .i64 j/\decide (R.drop j=S.drop j)=q/\Below w.heap.size w w') (λv _=>R.length-(intOf v).toNat)
  case atStart=>exact ⟨0,AsF _,rfl,HQ.out,B0.out⟩
  case round =>
   obtain ⟨j,hj,rfl,hp,hb⟩:=hrel
   clear HQ E
   by_cases hlt:j<R.length
   ·have hy:=ArP hlt
    have hjs:j<S.length:=by have:=HN.out;omega
    have hy':=ArP hjs
    have HB:=hid hb
    have hxl:=HL.out _ (List.getElem_mem hlt)
    obtain ⟨b,o,X,xc,rfl,hbb,c0,hX⟩:=(HR.out.below hb).at hy
    obtain ⟨b',o',Y,yc,rfl,hbb',c0',hY⟩:=(HS.out.below hb).at hy'
    have hdd:=Cl.sets_drop hy hy'
    generalize R[j]=x at hy hxl c0 hX hdd
    generalize S[j]=y at hy' c0' hY hdd
    have d1:decide ((j:Int)<(R.length:Int))=true:=aC (by omega)
    have i0:(0:Int)<=(j:Int):=ArV j
    have i1:(j:Int)<(R.length:Int):=by omega
    have i2:(j:Int)<(S.length:Int):=by omega
    have V0:=hid (AuN wr)
    have KS:=hid (λW (hW:Below wr.heap.size wr W)=>AsX ((hW.cell (p:=⟨b,o+j,none⟩) hbb).trans c0) ((hW.cell (p:=⟨b',o'+j,none⟩) hbb').trans c0'))
    have C:=hid (λW (hW:Below wr.heap.size wr W)=>AcE X xc x.length x Y yc y.length y W rfl (hX.below rfl hW) hxl rfl (hY.below rfl hW))
    have hz:decide (R.drop j=S.drop j)=(decide (x=y) && decide (R.drop (j+1)=S.drop (j+1))):=by
     rw [Bool.eq_iff_iff,AsW,AsE,AsE,AsE]
     exact hdd
    rw [hz] at hp
    generalize decide (x=y)=z at C hp
    have HP:=hid hp
    clear hb hy hy' hdd hz hp hX hY hbb hbb' c0 c0' hxl
    go_upto_region 6 with fail
    go_region_held3 (λW'=>W'.cell? ⟨b,o+j,none⟩=some (.slice X x.length xc)/\W'.cell? ⟨b',o'+j,none⟩=some (.slice Y y.length yc))
     (first|with_reducible exact KS.out _ V0.out.drew|with_reducible exact KS.out _ h5|(go_keep;done))
     (first|(go_at_call 37;(with_reducible refine (C.out _ V0.out.drew).mono ?_);rintro e5 w5 ⟨rfl,hb5⟩;have h5:=V0.out.drew.trans (hb5.mono V0.out.drew.size)))
    have B5:=hid (HB.out.trans (h5.mono HB.out.size))
    clear h5 KS C
    cases z with
    | true =>
      have HP2:=hid (show decide (R.drop (j+1)=S.drop (j+1))=q from HP.out)
      go_wp2
      go_roundw
      case rel=>exact ⟨j+1,by omega,by go_num,HP2.out,B5.out⟩
      case measure=>simp [intOf];omega
    | false =>
      have HP2:=hid (show false=q from HP.out)
      go_wp2
      go_ret
      exact ⟨by rw[<-HP2.out] <;> rfl,B5.out⟩
   obtain rfl:j=R.length:=by omega
   have d1:decide ((R.length:Int)<(R.length:Int))=false:=aB (by omega)
   have HP:=hid (show true=q from by
    rw [List.drop_length,HN.out,List.drop_length] at hp
    exact hp)
   have HB:=hid hb
   clear hp hb
   go_wp2
   go_ret
   exact ⟨by rw[<-HP.out] <;> rfl,HB.out⟩
 ·have E:((R.length:Int) != (S.length:Int))=true:=by rw[AuG];omega
  have P:=hid (show decide (R=S)=false from decide_eq_false λe=>hn (congrArg List.length e))
  clear hn
  go_enter Tryz.func17,Tryz.ntmps17
  go_wp2
  go_ret
  exact ⟨by rw[P.out] <;> rfl,B0.out⟩
 --]
open Go
section
variable {P : Program} {ops : Array Oper} {S : World -> Prop}
inductive Gives (P:Program) (ops:Array Oper) (S:World->Prop) (o:Oper) (a:Act) (v:Value):Prop
 | dead (h:Region.wanted o (yielded ops a.tmps)=false) (hv:v=undef)
 | val (h:Region.wanted o (yielded ops a.tmps)=true) (hv:∀ w,S w->(execOp a.eval o).run P w=.ok (.value v) w)
 | call (h:Region.wanted o (yielded ops a.tmps)=true) (f:FuncId) (args:Array Value) (hr:∀ w,S w->(execOp a.eval o).run P w=.ok (.enter f args) w) (hv:∀ w,S w->Calls P f args w λe w'=>e=.returned v/\S w')
def InText (P:Program) (ops:Array Oper) (S:World->Prop) (K:Act->Prop):List Oper->Act->Prop
 | [],a=>K a
 | o :: os,a=>∃ v,Gives P ops S o a v/\InText P ops S K os (a.put o.dst v)
theorem InText.dead {K:Act->Prop} {o:Oper} {os:List Oper} {a:Act} (hk:InText P ops S K os (a.put o.dst undef)) (h:Region.wanted o (yielded ops a.tmps)=false:=by rfl):InText P ops S K (o :: os) a:=⟨undef,.dead h rfl,hk⟩
theorem InText.val {K:Act->Prop} {o:Oper} {os:List Oper} {a:Act} {v:Value} (hv:∀ w,S w->(execOp a.eval o).run P w=.ok (.value v) w) (hk:InText P ops S K os (a.put o.dst v)) (h:Region.wanted o (yielded ops a.tmps)=true:=by rfl):InText P ops S K (o :: os) a:=⟨v,.val h hv,hk⟩
theorem InText.call {K:Act->Prop} {o:Oper} {os:List Oper} {a:Act} {v:Value} {f:FuncId} {args:Array Value} (hr:∀ w,S w->(execOp a.eval o).run P w=.ok (.enter f args) w) (hv:∀ w,S w->Calls P f args w λe w'=>e=.returned v/\S w') (hk:InText P ops S K os (a.put o.dst v)) (h:Region.wanted o (yielded ops a.tmps)=true:=by rfl):InText P ops S K (o :: os) a:=⟨v,.call h f args hr hv,hk⟩
theorem InText.end_ {K:Act->Prop} {a:Act} (h:K a):InText P ops S K [] a:=h
def aO (ops:Array Oper) (V:Nat->Value) (l:Nat->Bool) (a:Act):Nat->Act
 | 0=>a
 | n+1=>if l n=true then (aO ops V l a n).put ((ops[n]?).bind (·.dst)) (V n) else aO ops V l a n
theorem uY (a:Act) (d:Option Tmp) (v:Value):(a.put d v).tmps.size=a.tmps.size:=by cases d <;> simp [Act.put]
theorem fX (a:Act) (d:Option Tmp) (v:Value) {t:Nat} (h:d≠some t):(a.put d v).tmps[t]?=a.tmps[t]?:=by
 cases d with
 | none=>rfl
 | some x=>exact Array.getElem?_setIfInBounds_ne (λe=>h (by rw[e]))
theorem uZ (a b:Act) (t:Nat) (v:Value) (h:a.tmps.size=b.tmps.size):(a.put (some t) v).tmps[t]?=(b.put (some t) v).tmps[t]?:=by
 simp only [Act.put,Array.getElem?_setIfInBounds_self,h]
theorem dU (ops:Array Oper) (V:Nat->Value) (l:Nat->Bool) (a:Act):∀ n,(aO ops V l a n).tmps.size=a.tmps.size
 | 0=>rfl
 | n+1=>by
   unfold aO
   split
   ·rw[uY,dU]
   exact dU ops V l a n
theorem cK (ops:Array Oper) (V:Nat->Value) {l l':Nat->Bool} (a:Act):∀ n,(∀ k,k<n->l k=l' k)->aO ops V l a n=aO ops V l' a n
 | 0,_=>rfl
 | n+1,h=>by
   unfold aO
   rw [h n (Nat.lt_succ_self n),cK ops V a n λk hk=>h k (Nat.lt_succ_of_lt hk)]
theorem kJ (ops:Array Oper) (V:Nat->Value) {l l':Nat->Bool} (a:Act) {t:Nat}:∀ n,(∀ k,k<n->l k≠l' k->(ops[k]?).bind (·.dst)≠some t)->(aO ops V l a n).tmps[t]?=(aO ops V l' a n).tmps[t]?
 | 0,_=>rfl
 | n + 1,h=>by
   have ih:=kJ ops V (l:=l) (l':=l') a n λk hk=>h k (Nat.lt_succ_of_lt hk)
   have hs:(aO ops V l a n).tmps.size=(aO ops V l' a n).tmps.size:=by rw[dU,dU]
   unfold aO
   by_cases hd:(ops[n]?).bind (·.dst)=some t
   ·have hl:l n=l' n:=Decidable.byContradiction λhne=>h n (Nat.lt_succ_self n) hne hd
    rw [hl]
    split
    ·rw[hd];exact uZ _ _ t (V n) hs
    exact ih
   split <;> split
   ·rw[fX _ _ _ hd,fX _ _ _ hd];exact ih
   ·rw[fX _ _ _ hd];exact ih
   ·rw[fX _ _ _ hd];exact ih
   exact ih
theorem AhP {o:Oper} (hs:∀ cs b,o.op≠.select cs b) {a b:Act} (h:∀ t∈o.looksAt ops,a.tmps[t]?=b.tmps[t]?):execOp a.eval o=execOp b.eval o/\Region.wanted o (yielded ops a.tmps)=Region.wanted o (yielded ops b.tmps):=by
 constructor
 ·refine execOp_congr o hs λx hx=>?_
  cases x with
  | tmp t =>
    have:=h t (List.mem_append_left _ (List.mem_filterMap.2 ⟨.tmp t,by simpa using hx,rfl⟩))
    simp only [Act.eval,Array.getD_eq_getD_getElem?,this]
  | _=>rfl
 unfold Region.wanted
 cases hg:o.guard with
 | none=>rfl
 | some gw =>
   obtain ⟨g,want⟩:=gw
   have hy:yielded ops a.tmps g=yielded ops b.tmps g:=by
    unfold yielded
    cases ht:(ops[g]?).bind (·.dst) with
    | none=>rfl
    | some t =>
      have:=h t (List.mem_append_right _ (by rw[hg];simp [ht]))
      simp only [Option.bind_some,this]
   simp only [hy]
theorem Gives.same {o:Oper} (hs:∀ cs b,o.op≠.select cs b) {a b:Act} {v:Value} (h:∀ t∈o.looksAt ops,a.tmps[t]?=b.tmps[t]?) (hg:Gives P ops S o a v):Gives P ops S o b v:=by
 obtain ⟨h1,h2⟩:=AhP hs h
 cases hg with
 | dead h hv=>exact .dead (by rw[<-h2];exact h) hv
 | val h hv=>exact .val (by rw[<-h2];exact h) (by rw[<-h1];exact hv)
 | call h f args hr hv=>exact .call (by rw[<-h2];exact h) f args (by rw[<-h1];exact hr) hv
theorem Gives.op {o:Oper} {a:Act} {v:Value} {i:Nat} (ho:ops[i]?=some o) (hg:Gives P ops S o a v) {Q:Exit->Act->World->Prop} {K:Act->World->Prop} {w:World} (hS:S w) (h:∀ w',S w'->K (a.put o.dst v) w'):wpOp P ops Q i K a w:=by
 unfold wpOp
 simp only [ho]
 cases hg with
 | dead hw hv =>
   subst hv
   simp only [hw,Bool.false_eq_true,if_false]
   exact h w hS
 | val hw hv =>
   simp only [hw,if_true,Oper.wp,hv w hS,Oper.upon]
   exact .inl (h w hS)
 | call hw f args hr hv =>
   simp only [hw,if_true,Oper.wp,hr w hS,Oper.upon]
   refine .inl ((hv w hS).mono ?_)
   rintro e w' ⟨rfl,hS'⟩
   exact h w' hS'
def flat (ops:Array Oper):Bool:=Region.noSelect ops && (List.range ops.size).all λj=>match ops[j]? with
 | none=>true
 | some oj=>oj.after.all (λe=>!Region.binds .any e || decide (e.on<j)) && (List.range j).all λi=>oj.after.any (λe=>Region.binds .any e && e.on == i) || match ops[i]? with
   | none=>true
   | some oi=>oi.apart ops oj
theorem sF (hf:flat ops=true) {j:Nat} {oj:Oper} (hj:ops[j]?=some oj):∀ e∈oj.after,Region.binds .any e=true->e.on<j:=λe he hb=>by
 have h1:=List.all_eq_true.1 (Bool.and_eq_true_iff.1 hf).2 j (List.mem_range.2 (ArN hj).1)
 rw [hj,AsW] at h1
 have h2:=Array.all_eq_true'.1 h1.1 e he
 rw [hb] at h2
 simpa using h2
theorem lJ (hf:flat ops=true) {i j:Nat} {oi oj:Oper} (hi:ops[i]?=some oi) (hj:ops[j]?=some oj) (hij:i<j):(∃ e∈oj.after,Region.binds .any e=true/\e.on=i)∨oi.apart ops oj=true:=by
 have h1:=List.all_eq_true.1 (Bool.and_eq_true_iff.1 hf).2 j (List.mem_range.2 (ArN hj).1)
 rw [hj,AsW] at h1
 have h2:=List.all_eq_true.1 h1.2 i (List.mem_range.2 hij)
 rw [hi,Bool.or_eq_true] at h2
 rcases h2 with h2|h2
 ·obtain ⟨e,he,h3⟩:=Array.any_eq_true'.1 h2
  rw [AsW,beq_iff_eq] at h3
  exact .inl ⟨e,he,h3⟩
 exact .inr h2
theorem iQ (ops:Array Oper) (V:Nat->Value) (a:Act) (i:Nat):∀ n,i<=n->aO ops V (λk=>decide (k<i)) a n=aO ops V (λ_=>true) a i
 | 0,h=>by
   obtain rfl:i=0:=Nat.le_zero.1 h
   rfl
 | n + 1,h=>by
   rcases Nat.lt_or_ge n i with h1|h1
   ·obtain rfl:i=n+1:=by omega
    exact cK ops V a (n+1) λk hk=>decide_eq_true hk
   show (if decide (n<i)=true then _ else _)=_
   rw [decide_eq_false (Nat.not_lt.2 h1),AsA (by decide)]
   exact iQ ops V a i n h1
theorem mG (ops:Array Oper) (V:Nat->Value) {l:Nat->Bool} (a:Act) {i:Nat} (hl:l i=false):∀ n,i<n->(∀ k,i<k->k<n->l k=true->∀ d,(ops[i]?).bind (·.dst)=some d->(ops[k]?).bind (·.dst)≠some d)->(aO ops V l a n).put ((ops[i]?).bind (·.dst)) (V i)=aO ops V (λk=>l k || k == i) a n
 | 0,h,_=>absurd h (Nat.not_lt_zero i)
 | n + 1,h,hk=>by
   rcases Nat.lt_or_ge i n with h1|h1
   ·have ih:=mG ops V a hl n h1 λk h2 h3=>hk k h2 (Nat.lt_succ_of_lt h3)
    have hn:(n == i)=false:=ArW.2 (by omega)
    unfold aO
    rw [hn,Bool.or_false,<-ih]
    split
    ·rename_i hln
     exact Act.put_comm _ _ _ λd hd hd'=>hk n h1 (Nat.lt_succ_self n) hln d hd' hd
    rfl
   obtain rfl:n=i:=by omega
   have e:aO ops V (λk=>l k || k == n) a n=aO ops V l a n:=cK ops V a n λk hk=>by
    rw [ArW.2 (by omega),Bool.or_false]
   unfold aO
   rw [hl,AsA (by decide),e,AsB (by simp)]
def still (l:Nat->Bool):Nat->Nat
 | 0=>0
 | n+1=>still l n+if l n=true then 0 else 1
theorem pO {l:Nat->Bool}:∀ n,still l n=0->∀ k,k<n->l k=true
 | 0,_,k,hk=>absurd hk (Nat.not_lt_zero k)
 | n + 1,h,k,hk=>by
   unfold still at h
   have h1:l n=true:=by
    by_cases hl:l n=true
    ·exact hl
    rw [AsA hl] at h;omega
   rcases Nat.lt_or_ge k n with h2|h2
   ·exact pO n (by omega) k h2
   obtain rfl:k=n:=by omega
   exact h1
theorem sG {l:Nat->Bool} {i:Nat} (hl:l i=false):∀ n,i<n->still (λk=>l k || k == i) n+1=still l n
 | 0,h=>absurd h (Nat.not_lt_zero i)
 | n + 1,h=>by
   unfold still
   rcases Nat.lt_or_ge i n with h1|h1
   ·have:=sG hl n h1
    rw [ArW.2 (show n≠i by omega),Bool.or_false]
    omega
   obtain rfl:n=i:=by omega
   have e:∀ m,m<=n->still (λk=>l k || k == n) m=still l m:=λm=>by
    induction m with
    | zero=>intro _;rfl
    | succ m ih =>
      intro hm
      unfold still
      rw [ih (by omega),ArW.2 (show m≠n by omega),Bool.or_false]
   rw [e n (ArT _),hl]
   simp
theorem yO (l:Nat->Bool):∀ n,still l n<=n
 | 0=>ArT _
 | n+1=>by
   have:=yO l n
   unfold still
   split <;> omega
theorem AcH (hf:flat ops=true) {Q:Exit->Act->World->Prop} (V:Nat->Value) (a:Act) (hV:∀ i o,ops[i]?=some o->Gives P ops S o (aO ops V (λ_=>true) a i) (V i))
 (hQ:∀ w,S w->Q .normal (aO ops V (λ_=>true) a ops.size) w) :
 ∀ n (l:Array Bool) w,l.size=ops.size->still (λk=>l.getD k false) ops.size<=n->(∀ k o,ops[k]?=some o->l.getD k false=true->∀ e∈o.after,Region.binds .any e=true->l.getD e.on false=true)->S w ->
   wpAny P .any ops Q n l (aO ops V (λk=>l.getD k false) a ops.size) w:=by
 have fin:∀ (l:Array Bool) w,(∀ k,k<ops.size->l.getD k false=true)->S w->Q .normal (aO ops V (λk=>l.getD k false) a ops.size) w:=λl w h hS=>by
  rw [cK ops V (l':=λ_=>true) a ops.size h]
  exact hQ w hS
 have unl:∀ {l:Array Bool} {k:Nat},l.size=ops.size->k<ops.size->l.getD k false=false->l.getD k true=false:=λ{l k} hs hk h=>by
  have hlt:k<l.size:=by omega
  simp only [Array.getD,hlt,dif_pos] at h ⊢
  exact h
 have all:∀ (l:Array Bool),l.size=ops.size->Region.ready .any ops l=[]->∀ k,k<ops.size->l.getD k false=true:=λl hs hr k=>by
  induction k using Nat.strongRecOn with
  | ind k ih =>
    intro hk
    refine Decidable.byContradiction λhne=>?_
    have ho:=Array.getElem?_eq_getElem hk
    have:k∈Region.ready .any ops l:=mem_ready.2 ⟨unl hs hk (by simpa using hne),_,ho,λe he hb=>ih e.on (sF hf ho e he hb) (by have:=sF hf ho e he hb;omega)⟩
    rw [hr] at this
    cases this
 intro n
 induction n with
 | zero =>
   intro l w hs hn hd hS
   have h:=pO ops.size (Nat.le_zero.1 hn)
   refine ⟨?_,fin l w h hS⟩
   refine List.eq_nil_iff_forall_not_mem.2 λk hk=>?_
   obtain ⟨h1,o,ho,-⟩:=mem_ready.1 hk
   have h2:=h k (ArN ho).1
   have hlt:k<l.size:=by have:=(ArN ho).1;omega
   simp only [Array.getD,hlt,dif_pos] at h1 h2
   exact absurd (h1.symm.trans h2) (by decide)
 | succ n ih =>
   intro l w hs hn hd hS
   refine ⟨λhr=>fin l w (all l hs hr) hS,λi hi=>?_⟩
   obtain ⟨h1,o,ho,hdep⟩:=mem_ready.1 hi
   have hin:=(ArN ho).1
   have hil:i<l.size:=by omega
   have hi0:l.getD i false=false:=by
    simp only [Array.getD,hil,dif_pos] at h1 ⊢
    exact h1
   have hset:∀ k,(l.setIfInBounds i true).getD k false=(l.getD k false || k == i):=λk=>by
    rw [Array.getD_eq_getD_getElem?,Array.getD_eq_getD_getElem?]
    by_cases hki:k=i
    ·subst hki
     rw [Array.getElem?_setIfInBounds_self]
     simp [hil]
    rw [Array.getElem?_setIfInBounds_ne (Ne.symm hki),ArW.2 hki,Bool.or_false]
   have hsel:=Region.noSelect_spec (Bool.and_eq_true_iff.1 hf).1 i o
   have hg:=hV i o ho
   rw [<-iQ ops V a i ops.size (Nat.le_of_lt hin)] at hg
   have hg2:Gives P ops S o (aO ops V (λk=>l.getD k false) a ops.size) (V i):=hg.same (λcs b=>hsel cs b ho) λt ht=>kJ ops V a ops.size λk hk hne hdk=>by
    have hok:=Array.getElem?_eq_getElem hk
    rw [hok] at hdk
    simp only [Option.bind_some] at hdk
    rcases Nat.lt_trichotomy k i with hki|hki|hki
    ·rcases lJ hf hok ho hki with ⟨e,he,hb,rfl⟩|hap
     ·have h2:=hdep e he hb
      simp only [h2,decide_eq_true hki] at hne
      exact hne rfl
     exact (Oper.apart_spec hap).1 t hdk ht
    ·subst hki
     simp only [hi0,decide_eq_false (Nat.lt_irrefl k)] at hne
     exact hne rfl
    rcases lJ hf ho hok hki with ⟨e,he,hb,rfl⟩|hap
    ·have hlk:l.getD k false=true:=by
      cases hx:l.getD k false with
      | true=>rfl
      | false=>simp only [hx,decide_eq_false (Nat.not_lt.2 (Nat.le_of_lt hki))] at hne;exact absurd rfl hne
     have h2:=hd k _ hok hlk e he hb
     rw [hi0] at h2
     cases h2
    exact (Oper.apart_spec hap).2.2 t hdk ht
   refine hg2.op ho hS λw' hS'=>?_
   have hput:=mG ops V (l:=λk=>l.getD k false) a hi0 ops.size hin λk hik hk hlk d hdi hdk=>by
    have hok:=Array.getElem?_eq_getElem hk
    rw [ho] at hdi
    rw [hok] at hdk
    simp only [Option.bind_some] at hdi hdk
    rcases lJ hf ho hok hik with ⟨e,he,hb,rfl⟩|hap
    ·have h2:=hd k _ hok hlk e he hb
     rw [hi0] at h2
     cases h2
    exact (Oper.apart_spec hap).2.1 d hdi hdk
   rw [ho] at hput
   simp only [Option.bind_some] at hput
   rw [hput,<-cK ops V (l:=λk=>(l.setIfInBounds i true).getD k false) a ops.size λk _=>hset k]
   refine ih (l.setIfInBounds i true) w' (by simpa using hs) ?_ ?_ hS'
   ·have h2:=sG (l:=λk=>l.getD k false) hi0 ops.size hin
    have h3:still (λk=>(l.setIfInBounds i true).getD k false) ops.size=still (λk=>l.getD k false || k == i) ops.size:=congrArg (still · ops.size) (funext hset)
    omega
   intro k ok hok hlk e he hb
   rw [hset] at hlk ⊢
   rw [Bool.or_eq_true] at hlk ⊢
   rcases hlk with hlk|hlk
   ·exact .inl (hd k ok hok hlk e he hb)
   obtain rfl:k=i:=by simpa using hlk
   rw [ho] at hok
   cases hok
   exact .inl (hdep e he hb)
def iR (os:List Oper) (V:Nat->Value) (a:Act):Nat->Act
 | 0=>a
 | j+1=>(iR os V a j).put ((os[j]?).bind (·.dst)) (V j)
theorem jJ (o:Oper) (os:List Oper) (v:Value) (V:Nat->Value) (a:Act):∀ j,iR (o :: os) (λk=>match k with|0=>v|k+1=>V k) a (j+1)=iR os V (a.put o.dst v) j
 | 0=>rfl
 | j+1=>by
   show (iR (o :: os) _ a (j+1)).put _ _=(iR os V (a.put o.dst v) j).put _ _
   rw [jJ o os v V a j]
   rfl
theorem InText.values {K:Act->Prop}:∀ (os:List Oper) (a:Act),InText P ops S K os a->∃ V:Nat->Value,(∀ j o,os[j]?=some o->Gives P ops S o (iR os V a j) (V j))/\K (iR os V a os.length)
 | [],a,h=>⟨λ_=>undef,λj o h=>(by cases h),h⟩
 | o :: os,a,⟨v,h1,h2⟩=>by
   obtain ⟨V,h3,h4⟩:=InText.values os (a.put o.dst v) h2
   refine ⟨λk=>match k with|0=>v|k+1=>V k,λj o' ho=>?_,?_⟩
   ·cases j with
    | zero =>
      cases ho
      exact h1
    | succ j =>
      rw [jJ]
      exact h3 j o' ho
   show K (iR (o :: os) _ a (os.length+1))
   rw [jJ]
   exact h4
theorem gQ (V:Nat->Value) (a:Act):∀ j,aO ops V (λ_=>true) a j=iR ops.toList V a j
 | 0=>rfl
 | j+1=>by
   show (if true=true then _ else _)=_
   rw [AsB rfl,gQ V a j]
   show _=(iR ops.toList V a j).put ((ops.toList[j]?).bind (·.dst)) (V j)
   rw [Array.getElem?_toList]
theorem aS {Q:Exit->Act->World->Prop} {os:List Oper} {id:Nat} {a:Act} {w:World} (S:World->Prop) (hm:P.follows .mixedOrders=true) (hf:flat os.toArray=true) (hS:S w.drew) (h:InText P os.toArray S (λb=>∀ w',S w'->Q .normal b w') os a):(Code.region id os.toArray true).wp P Q a w:=by
 obtain ⟨V,h1,h2⟩:=InText.values os a h
 refine wp_region_any hm ?_
 have h3:=AcH (ops:=os.toArray) hf (Q:=Q) V a (λi o ho=>by rw[gQ];exact h1 i o (by simpa using ho)) (λw' hS'=>by rw[gQ];exact h2 w' hS') os.toArray.size (Array.replicate os.toArray.size false) w.drew (by simp) (yO _ _) (λk o hk hl=>by
  rw [Array.getD_eq_getD_getElem?,Array.getElem?_replicate] at hl
  split at hl <;> cases hl) hS
 have h4:aO os.toArray V (λk=>(Array.replicate os.toArray.size false).getD k false) a os.toArray.size=a:=by
  have : ∀ n,aO os.toArray V (λk=>(Array.replicate os.toArray.size false).getD k false) a n=a:=λn=>by
   induction n with
   | zero=>rfl
   | succ n ih =>
     unfold aO
     rw [AsA,ih]
     rw [Array.getD_eq_getD_getElem?,Array.getElem?_replicate]
     split <;> decide
  exact this _
 rw [h4] at h3
 exact h3
theorem InText.list {Q:Exit->Act->World->Prop}:∀ (os:List Oper) (a:Act),InText P ops S (λb=>∀ w',S w'->Q .normal b w') os a->∀ w,S w->wpList P ops Q os a w
 | [],_,h,w,hS=>h w hS
 | o :: os,a,⟨v,hg,hk⟩,w,hS=>by
   have next:∀ w',S w'->wpList P ops Q os (a.put o.dst v) w':=λw' hS'=>InText.list os _ hk w' hS'
   unfold wpList
   cases hg with
   | dead hw hv =>
     subst hv
     simp only [hw,Bool.false_eq_true,if_false]
     exact next w hS
   | val hw hv =>
     simp only [hw,if_true,Oper.wp,hv w hS,Oper.upon]
     exact .inl (next w hS)
   | call hw f args hr hv =>
     simp only [hw,if_true,Oper.wp,hr w hS,Oper.upon]
     refine .inl ((hv w hS).mono ?_)
     rintro e w' ⟨rfl,hS'⟩
     exact next w' hS'
theorem gA {Q:Exit->Act->World->Prop} {os:List Oper} {id:Nat} {a:Act} {w:World} (S:World->Prop) (hS:S w) (h:InText P os.toArray S (λb=>∀ w',S w'->Q .normal b w') os a):(Code.region id os.toArray false).wp P Q a w :=
 wp_region_lit (h.list os a w hS)
end
open Go.RowKit
structure Tb.Bound (t:Tb.Table):Prop where
 names:t.names.length<=1000000
 points:t.points.length<=1000000
 sigs:t.sigs.length<=1000000
 routes:t.routes.length<=1000000
 name:∀ x∈t.names,x.length<=1000000
 sig:∀ x∈t.sigs,x.length<=1000000
 route:∀ r∈t.routes,Tb.Few r
 bar:∀ x∈t.bars,x.length<=1000000
 bars:t.bars.length<=1000000
theorem Tb.Few.tiny {r:Rt.Route} (h:Tb.Few r):Cl.Tiny r:=⟨h.1,h.2.1,h.2.2.1⟩
theorem pP (A:Option Addr) (c n:Nat) (L:List Int) (A':Option Addr) (c' n':Nat) (M:List Int) (w:World) (hn:L.length=n) (h:aF.Row w A L) (hl:n<=1000000) (hn':M.length=n') (h':aF.Row w A' M) :
 Calls Tryz.prog 36 #[.slice A n c,.slice A' n' c'] w (OneIs (.bool (decide (L=M))) w):=by
 --[
 subst hn hn'
 have B0:=hid (AuN w)
 have HR:=hid h
 have HR':=hid h'
 clear h h'
 by_cases hn:L.length=M.length
 ·have E : ((L.length:Int) != (M.length:Int))=false:=by rw[bne_eq_false_iff_eq];omega
  have HN:=hid hn
  go_enter Tryz.func36,Tryz.ntmps36
  go_wp2_with fail
  go_loopw [5] (λv w'=>∃ j:Nat,j<=L.length/\v=.int .i64 j/\L.take j=M.take j/\Below w.heap.size w w') (λv _=>L.length-(intOf v).toNat)
  case atStart=>exact ⟨0,AsF _,rfl,rfl,B0.out⟩
  case round =>
   obtain ⟨j,hj,rfl,hp,hb⟩:=hrel
   by_cases hlt:j<L.length
   ·have hy:=ArP hlt
    have hy':=ArP (show j<M.length by omega)
    have HB:=hid hb
    obtain ⟨b,o,rfl,hbb,on⟩:=(HR.out.below rfl hb).at hlt
    obtain ⟨b',o',rfl,hbb',on'⟩:=(HR'.out.below rfl hb).at (show j<M.length by omega)
    generalize L[j]=x at hy on
    generalize M[j]=y at hy' on'
    have c0:=eU on
    have c0':=eU on'
    rw [show j*aF.m=j from Nat.mul_one j] at c0 c0'
    have d1:decide ((j:Int)<(L.length:Int))=true:=aC (by omega)
    have i0:(0:Int)<=(j:Int):=ArV j
    have i1:(j:Int)<(L.length:Int):=by omega
    have i1':(j:Int)<(M.length:Int):=by omega
    have HY:=hid (AsX hy hy')
    have HP:=hid hp
    clear hb hy hy' on on' hp E hn
    by_cases h1:x=y
    ·have E1:(x != y)=false:=by rw[bne_eq_false_iff_eq];exact h1
     have HP2:=hid (show L.take (j+1)=M.take (j+1) from by
      rw [List.take_add_one,List.take_add_one,HY.out.1,HY.out.2,HP.out,h1])
     clear h1
     go_upto_region 6 with fail
     go_quiet (fail)
     go_wp2
     go_roundw
     case rel=>exact ⟨j+1,by omega,by go_num,HP2.out,aI HB.out _⟩
     case measure=>simp [intOf];omega
    have E1:(x != y)=true:=by rw[AuG];exact h1
    have HF:=hid (show decide (L=M)=false from decide_eq_false λe=>by
     have h3:=HY.out.1
     rw [e,HY.out.2] at h3
     cases h3
     exact h1 rfl)
    clear h1
    go_upto_region 6 with fail
    go_quiet (fail)
    go_wp2
    go_ret
    exact ⟨by rw[HF.out] <;> rfl,aI HB.out _⟩
   obtain rfl:j=L.length:=by omega
   have d1:decide ((L.length:Int)<(L.length:Int))=false:=aB (by omega)
   have HB:=hid hb
   have HP:=hid (show decide (L=M)=true from decide_eq_true (by
    rw [List.take_length,hn,List.take_length] at hp
    exact hp))
   clear hb hp hn E
   go_wp2
   go_ret
   exact ⟨by rw[HP.out] <;> rfl,HB.out⟩
 ·have E:((L.length:Int) != (M.length:Int))=true:=by rw[AuG];omega
  have P:=hid (show decide (L=M)=false from decide_eq_false λh=>hn (by rw[h]))
  clear hn
  go_enter Tryz.func36,Tryz.ntmps36
  go_wp2
  go_ret
  exact ⟨by rw[P.out] <;> rfl,B0.out⟩
 --]
theorem RoutesIn.two {w:World} {A:Option Addr} {L:List Rt.Route} (h:RoutesIn w A L) {k:Nat} {y:Rt.Route} (hk:L[k]?=some y):∃ (b o:Nat) (m:RouteM),A=some ⟨b,o,none⟩/\b<w.heap.size/\m.r=y/\(∀ W,Below w.heap.size w W->LRt.On W b (o+k*9) m)/\PartsIn w m:=by
 obtain ⟨b,o,m,h1,h2,h3,h4,h5⟩:=h.at hk
 exact ⟨b,o,m,h1,h2,h3,λW hW=>h4.below h2 hW,h5⟩
theorem eB (w:World) (a b:Obj):((w.alloc a).alloc b).heap[w.heap.size]?=some a/\((w.alloc a).alloc b).heap[w.heap.size+1]?=some b/\Below w.heap.size w ((w.alloc a).alloc b):=by
 have s1:(w.alloc a).heap.size=w.heap.size+1:=by simp
 refine ⟨?_,?_,((Below.refl _ _).alloc (ArT _) _).alloc (by omega) _⟩
 ·rw[heap_alloc_old _ _ (by omega)];exact AuH _ _
 rw [<-s1];exact AuH _ _
theorem pQ (w:World) (a b:Obj):(((w.alloc a).alloc b).drew).heap[w.heap.size]?=some a/\(((w.alloc a).alloc b).drew).heap[w.heap.size+1]?=some b/\Below w.heap.size w (((w.alloc a).alloc b).drew) :=
 ⟨(eB w a b).1,(eB w a b).2.1,(eB w a b).2.2.drew⟩
def AqD (wr:World) (m1 m2:RouteM) (s6 s7:Value) (w':World):Prop:=∃ g6 g7:Nat,s6=.pointer (some ⟨g6,0,none⟩)/\s7=.pointer (some ⟨g7,0,none⟩)/\w'.heap[g6]?=some (rtO m1)/\w'.heap[g7]?=some (rtO m2)/\Below wr.heap.size wr w'
theorem AcI (L:List Rt.Route) (A:Option Addr) (c:Nat) (B:Option Addr) (d:Nat) (w:World) (hA:RoutesIn w A L) (hB:RoutesIn w B L) (hl:L.length<=1000) (hs:∀ y∈L,y.steps.length<=1000/\y.lap.length<=1000/\y.pts.length<=1000/\y.fl.length<=1000/\y.near.length<=1000) :
 Calls Tryz.prog 16 #[.slice A L.length c,.slice B L.length d] w λe w'=>e=.returned (.bool true)/\Below w.heap.size w w':=by
 have IA:=hid hA
 have IB:=hid hB
 have HS:=hid hs
 clear hA hB hs
 go_enter Tryz.func16,Tryz.ntmps16
 go_wp2_with fail
 go_loopw [5] (λi wr=>∃ k:Nat,k<=L.length/\i=.int .i64 k/\Below w.heap.size w wr) (λi _=>L.length-(intOf i).toNat)
 case atStart=>exact ⟨0,AsF _,rfl,Below.refl _ _⟩
 case round =>
  obtain ⟨k,hk,rfl,hB⟩:=hrel
  have HB:=hid hB
  clear hB
  by_cases hlt:k<L.length
  ·have hy:=ArP hlt
   have hym:=HS.out _ (List.getElem_mem hlt)
   obtain ⟨b1,o1,m1,rfl,hb1,hm1,hon1,hP1⟩:=(IA.out.below HB.out).two hy
   obtain ⟨b2,o2,m2,rfl,hb2,hm2,hon2,hP2⟩:=(IB.out.below HB.out).two hy
   generalize L[k]=y at hy hym hm1 hm2
   obtain ⟨A1,c1,A2,c2,A3,c3,A4,c4,A5,c5,r1⟩:=m1
   obtain ⟨D1,e1,D2,e2,D3,e3,D4,e4,D5,e5,r2⟩:=m2
   simp only at hm1 hm2
   subst hm1
   subst hm2
   obtain ⟨en,ex,ys,yl,yp,yf,yn,yd,yt⟩:=r2
   simp only at hym
   have W0:=hid (AuN wr)
   have K1:=hid (λW (hW:Below wr.heap.size wr W)=>mE (hon1 W hW))
   have K2:=hid (λW (hW:Below wr.heap.size wr W)=>mE (hon2 W hW))
   have P1:=hid hP1
   have P2:=hid hP2
   have i0:(0:Int)<=(k:Int):=ArV k
   have i1:(k:Int)<(L.length:Int):=by omega
   have d1:decide ((k:Int)<(L.length:Int))=true:=aC (by omega)
   have Q1:(en != en)=false:=by simp
   have Q2:(ex != ex)=false:=by simp
   have Q3:(yd != yd)=false:=by simp
   have Q4:(yt != yt)=false:=by simp
   clear hon1 hon2 hP1 hP2 hy
   go_upto_region 6 with fail
   obtain ⟨x0,x1,x2,x3,x4,x5,x6,x7,x8⟩:=K1.out _ W0.out
   obtain ⟨y0,y1,y2,y3,y4,y5,y6,y7,y8⟩:=K2.out _ W0.out
   simp only at x0 x1 x2 x3 x4 x5 x6 x7 x8 y0 y1 y2 y3 y4 y5 y6 y7 y8
   go_cut [6,7] from 13 to 92 (λs6 s7 w'=>AqD wr ⟨A1,c1,A2,c2,A3,c3,A4,c4,A5,c5,⟨en,ex,ys,yl,yp,yf,yn,yd,yt⟩⟩ ⟨D1,e1,D2,e2,D3,e3,D4,e4,D5,e5,⟨en,ex,ys,yl,yp,yf,yn,yd,yt⟩⟩ s6 s7 w')
   case first =>
    go_region_with (fail)
    all_goals go_wp2_with fail
    all_goals go_meet
    all_goals refine ⟨_,_,rfl,rfl,?_,?_,?_⟩
    all_goals first
     | with_reducible exact (eB wr _ _).1
     | with_reducible exact (eB wr _ _).2.1
     | with_reducible exact (eB wr _ _).2.2
     | with_reducible exact (pQ wr _ _).1
     | with_reducible exact (pQ wr _ _).2.1
     | with_reducible exact (pQ wr _ _).2.2
   case rest =>
    obtain ⟨g6,g7,rfl,rfl,h6,h7,hb⟩:=hcut
    have T0:=hid (AuN wc)
    have BW:=hid hb
    have g6l:=(ArN h6).1
    have g7l:=(ArN h7).1
    have KS:=hid (λW (hW:Below wc.heap.size wc W)=>show W.cell? ⟨g6,0,none⟩=some (.int .i64 en)/\W.cell? ⟨g6,1,none⟩=some (.int .i64 ex)/\W.cell? ⟨g6,2,none⟩=some (.slice A1 ys.length c1)/\W.cell? ⟨g6,3,none⟩=some (.slice A2 yl.length c2)/\W.cell? ⟨g6,4,none⟩=some (.slice A3 yp.length c3)/\W.cell? ⟨g6,5,none⟩=some (.slice A4 yf.length c4)/\W.cell? ⟨g6,6,none⟩=some (.slice A5 yn.length c5)/\W.cell? ⟨g6,7,none⟩=some (.int .i64 yd)/\W.cell? ⟨g6,8,none⟩=some (.int .i64 yt)/\W.cell? ⟨g7,0,none⟩=some (.int .i64 en)/\W.cell? ⟨g7,1,none⟩=some (.int .i64 ex)/\W.cell? ⟨g7,2,none⟩=some (.slice D1 ys.length e1)/\W.cell? ⟨g7,3,none⟩=some (.slice D2 yl.length e2)/\W.cell? ⟨g7,4,none⟩=some (.slice D3 yp.length e3)/\W.cell? ⟨g7,5,none⟩=some (.slice D4 yf.length e4)/\W.cell? ⟨g7,6,none⟩=some (.slice D5 yn.length e5)/\W.cell? ⟨g7,7,none⟩=some (.int .i64 yd)/\W.cell? ⟨g7,8,none⟩=some (.int .i64 yt) from by
     obtain ⟨⟨a0,a1,a2,a3,a4,a5,a6,a7,a8⟩,-,-⟩:=row9 ((hW.block _ g6l).trans h6)
     obtain ⟨⟨z0,z1,z2,z3,z4,z5,z6,z7,z8⟩,-,-⟩:=row9 ((hW.block _ g7l).trans h7)
     exact ⟨a0,a1,a2,a3,a4,a5,a6,a7,a8,z0,z1,z2,z3,z4,z5,z6,z7,z8⟩)
    have BX:=λW (hW:Below wc.heap.size wc W)=>BW.out.trans (hW.mono BW.out.size)
    have q1:=pC ys ys A1 c1 D1 e1
    have q2:=pC yl yl A2 c2 D2 e2
    have q3:=AbV A3 c3 yp D3 e3 yp
    have q4:=λW=>pP A4 c4 yf.length yf D4 e4 yf.length yf W rfl
    have q5:=λW=>pP A5 c5 yn.length yn D5 e5 yn.length yn W rfl
    simp only [decide_true] at q1 q2 q3 q4 q5
    have C1:=hid (λW (hW:Below wc.heap.size wc W)=>Made.of (w:=wc) hW (q1 W (P1.out.p1.below rfl (BX W hW)) (P2.out.p1.below rfl (BX W hW)) (by omega)))
    have C2:=hid (λW (hW:Below wc.heap.size wc W)=>Made.of (w:=wc) hW (q2 W (P1.out.p2.below rfl (BX W hW)) (P2.out.p2.below rfl (BX W hW)) (by omega)))
    have C3:=hid (λW (hW:Below wc.heap.size wc W)=>Made.of (w:=wc) hW (q3 W (P1.out.p3.below rfl (BX W hW)) (by omega) (P2.out.p3.below rfl (BX W hW)) (by omega)))
    have C4:=hid (λW (hW:Below wc.heap.size wc W)=>Made.of (w:=wc) hW (q4 W (P1.out.p4.below rfl (BX W hW)) (by omega) trivial (P2.out.p4.below rfl (BX W hW))))
    have C5:=hid (λW (hW:Below wc.heap.size wc W)=>Made.of (w:=wc) hW (q5 W (P1.out.p5.below rfl (BX W hW)) (by omega) trivial (P2.out.p5.below rfl (BX W hW))))
    clear q1 q2 q3 q4 q5 BX h6 h7 g6l g7l hb x0 x1 x2 x3 x4 x5 x6 x7 x8 y0 y1 y2 y3 y4 y5 y6 y7 y8 K1 K2 P1 P2 hym W0
    go_upto_region 7 with fail
    obtain ⟨a0,a1,a2,a3,a4,a5,a6,a7,a8,a9,a10,a11,a12,a13,a14,a15,a16,a17⟩:=KS.out _ T0.out
    go_wp2_with fail
    refine (C1.out _ T0.out).mono ?_;rintro e w1 ⟨rfl,-,hu1,-⟩
    have U1:=hid hu1
    clear hu1 C1 a0 a1 a2 a3 a4 a5 a6 a7 a8 a9 a10 a11 a12 a13 a14 a15 a16 a17
    obtain ⟨a0,a1,a2,a3,a4,a5,a6,a7,a8,a9,a10,a11,a12,a13,a14,a15,a16,a17⟩:=KS.out _ U1.out
    go_wp2_with fail
    refine (C2.out _ U1.out).mono ?_;rintro e w2 ⟨rfl,-,hu2,-⟩
    have U2:=hid hu2
    clear hu2 C2 a0 a1 a2 a3 a4 a5 a6 a7 a8 a9 a10 a11 a12 a13 a14 a15 a16 a17
    obtain ⟨a0,a1,a2,a3,a4,a5,a6,a7,a8,a9,a10,a11,a12,a13,a14,a15,a16,a17⟩:=KS.out _ U2.out
    go_wp2_with fail
    refine (C3.out _ U2.out).mono ?_;rintro e w3 ⟨rfl,-,hu3,-⟩
    have U3:=hid hu3
    clear hu3 C3 a0 a1 a2 a3 a4 a5 a6 a7 a8 a9 a10 a11 a12 a13 a14 a15 a16 a17
    obtain ⟨a0,a1,a2,a3,a4,a5,a6,a7,a8,a9,a10,a11,a12,a13,a14,a15,a16,a17⟩:=KS.out _ U3.out
    go_wp2_with fail
    refine (C4.out _ U3.out).mono ?_;rintro e w4 ⟨rfl,-,hu4,-⟩
    have U4:=hid hu4
    clear hu4 C4 a0 a1 a2 a3 a4 a5 a6 a7 a8 a9 a10 a11 a12 a13 a14 a15 a16 a17
    obtain ⟨a0,a1,a2,a3,a4,a5,a6,a7,a8,a9,a10,a11,a12,a13,a14,a15,a16,a17⟩:=KS.out _ U4.out
    go_wp2_with fail
    refine (C5.out _ U4.out).mono ?_;rintro e w5 ⟨rfl,-,hu5,-⟩
    have U5:=hid hu5
    clear hu5 C5 a0 a1 a2 a3 a4 a5 a6 a7 a8 a9 a10 a11 a12 a13 a14 a15 a16 a17
    obtain ⟨a0,a1,a2,a3,a4,a5,a6,a7,a8,a9,a10,a11,a12,a13,a14,a15,a16,a17⟩:=KS.out _ U5.out
    have HB2:=hid ((HB.out.trans (BW.out.mono HB.out.size)).trans (U5.out.mono (HB.out.trans (BW.out.mono HB.out.size)).size))
    go_wp2
    go_roundw
    case rel=>exact ⟨k+1,by omega,by go_num,HB2.out⟩
    case measure=>simp [intOf];omega
  obtain rfl:k=L.length:=by omega
  go_wp2
  go_ret
  exact ⟨rfl,HB.out⟩
structure TbBut (g:Nat) (w w':World):Prop where
 os:w'.os=w.os
 tape:w'.tape=w.tape
 output:w'.output=w.output
 size:w.heap.size<=w'.heap.size
 block:∀ k,k<w.heap.size->k≠g->w'.heap[k]?=w.heap[k]?
section
variable {g : Nat} {w a b : World}
theorem TbBut.refl (g:Nat) (w:World):TbBut g w w:=⟨rfl,rfl,rfl,ArT _,λ_ _ _=>rfl⟩
theorem TbBut.below (h:TbBut g w a) (hb:Below a.heap.size a b):TbBut g w b :=
 ⟨hb.os.trans h.os,hb.tape.trans h.tape,hb.output.trans h.output,ArU h.size hb.size,λk hk hg=>(hb.block k (AsG hk h.size)).trans (h.block k hk hg)⟩
theorem TbBut.trans (h:TbBut g w a) (h':TbBut g a b):TbBut g w b :=
 ⟨h'.os.trans h.os,h'.tape.trans h.tape,h'.output.trans h.output,ArU h.size h'.size,λk hk hg=>(h'.block k (AsG hk h.size) hg).trans (h.block k hk hg)⟩
theorem TbBut.grown (h:TbBut g w a) {row:Option Nat} (hg:a.grownBy b row) (hr:∀ k,row=some k->w.heap.size<=k):TbBut g w b :=
 ⟨hg.os.trans h.os,hg.tape.trans h.tape,hg.output.trans h.output,ArU h.size hg.size,λk hk hn=>(hg.block k (AsG hk h.size) λe=>by have:=hr k e.symm;omega).trans (h.block k hk hn)⟩
theorem TbBut.setCell (h:TbBut g w a) (o:Nat) (v:Value):TbBut g w (a.setCell ⟨g,o,none⟩ v) :=
 ⟨h.os,h.tape,h.output,by simpa [World.setCell] using h.size,λk hk hn=>(AuI _ _ _ _ hn).trans (h.block k hk hn)⟩
theorem TbBut.to (h:TbBut g w a) {N:Nat} (hN:N<=g) (hw:N<=w.heap.size):Below N w a :=
 ⟨h.os,h.tape,h.output,h.size,λk hk=>h.block k (by omega) (by omega)⟩
theorem TbBut.row {α:Type} {E:Lies α} {A:Option Addr} {L:List α} (h:TbBut g w a) (hr:ApartR E w (some g) A L):E.Row a A L:=(hr.off h.size h.block).1
theorem TbBut.sets {N:Nat} {A:Option Addr} {R:List (List Nat)} (h:TbBut g w a) (hs:SetsAp N w (some g) A R):SetsNew N a A R:=(hs.off h.size h.block).new
end
structure TbB (g:Nat) (w5 w:World) (cs:Array Value) (v0:Value) (N:List Pl.Nm) (v1:Value) (P:List Bool):Prop where
 tab:w.heap[g]?=some (.cells cs 34)
 own0:w.ownsRow w5.heap.size 9 LTx.m v0 N.length (LTx.all N)
 own1:w.ownsRow w5.heap.size 4 LBo.m v1 P.length (LBo.all P)
 but:TbBut g w5 w
 lt:g<w5.heap.size
section
variable {g : Nat} {w5 w w1 w2 : World} {cs : Array Value} {v0 v1 v : Value} {N : List Pl.Nm} {P : List Bool}
theorem TbB.below (h:TbB g w5 w cs v0 N v1 P) (hb:Below w.heap.size w w1):TbB g w5 w1 cs v0 N v1 P :=
 ⟨(hb.block _ (AsG h.lt h.but.size)).trans h.tab,aA h.own0 hb,aA h.own1 hb,h.but.below hb,h.lt⟩
theorem TbB.name (h:TbB g w5 w cs v0 N v1 P) {x:Pl.Nm} {n:Nat} {xs:List Value} (hg:w.grownBy w2 v0.ownBlock) (ho:w2.ownsRow w5.heap.size 9 LTx.m v n xs) (hn:n=N.length+1) (hx:xs=LTx.all N++LTx.all [x]):TbB g w5 w2 cs v (N++[x]) v1 P:=by
 subst hn hx
 have h0:v0.ownBlock≠some g:=λe=>by
  have:=(h.own0.lt _ e).1
  have:=h.lt
  omega
 refine ⟨(hg.block _ (AsG h.lt h.but.size) λe=>h0 e.symm).trans h.tab,by rw[ArX,LTx.all_append];exact ho,aK h.own1 λb hb=>hg.block _ (h.own1.lt b hb).2 λe=>iD h.own0 h.own1 (by decide) b e.symm hb,h.but.grown hg λk hk=>(h.own0.lt k hk).1,h.lt⟩
theorem TbB.point (h:TbB g w5 w cs v0 N v1 P) {x:Bool} {n:Nat} {xs:List Value} (hg:w.grownBy w2 v1.ownBlock) (ho:w2.ownsRow w5.heap.size 4 LBo.m v n xs) (hn:n=P.length+1) (hx:xs=LBo.all P++LBo.all [x]):TbB g w5 w2 cs v0 N v (P++[x]):=by
 subst hn hx
 have h0:v1.ownBlock≠some g:=λe=>by
  have:=(h.own1.lt _ e).1
  have:=h.lt
  omega
 refine ⟨(hg.block _ (AsG h.lt h.but.size) λe=>h0 e.symm).trans h.tab,aK h.own0 λb hb=>hg.block _ (h.own0.lt b hb).2 λe=>iD h.own1 h.own0 (by decide) b e.symm hb,by rw[ArX,LBo.all_append];exact ho,h.but.grown hg λk hk=>(h.own1.lt k hk).1,h.lt⟩
theorem TbB.put (h:TbB g w5 w cs v0 N v1 P) (o:Nat) (v:Value):TbB g w5 (w.setCell ⟨g,o,none⟩ v) (cs.setIfInBounds o v) v0 N v1 P:=by
 have off:∀ b,w5.heap.size<=b->(w.setCell ⟨g,o,none⟩ v).heap[b]?=w.heap[b]?:=λb hb=>AuI _ _ _ _ λe=>by
  have:=h.lt
  simp only at e
  omega
 exact ⟨AuL w g o _ _ v h.tab,aK h.own0 λb hb=>off b (h.own0.lt b hb).1,aK h.own1 λb hb=>off b (h.own1.lt b hb).1,h.but.setCell o v,h.lt⟩
theorem TbB.n0 (h:TbB g w5 w cs v0 N v1 P) {i:Nat} (hi:N.length=i):w.ownsRow w5.heap.size 9 LTx.m v0 i (LTx.all N):=hi ▸ h.own0
theorem TbB.n1 (h:TbB g w5 w cs v0 N v1 P) {i:Nat} (hi:P.length=i):w.ownsRow w5.heap.size 4 LBo.m v1 i (LBo.all P):=hi ▸ h.own1
theorem TbB.start (hg:w5.heap[g]?=some (.cells cs 34)):TbB g w5 w5 cs (.slice none 0 0) [] (.slice none 0 0) [] :=
 ⟨hg,World.ownsRow_nil _ _ _ _,World.ownsRow_nil _ _ _ _,TbBut.refl _ _,(ArN hg).1⟩
theorem TbB.cell (h:TbB g w5 w cs v0 N v1 P) {o:Nat} {x:Value} (hx:cs[o]?=some x):w.cell? ⟨g,o,none⟩=some x/\w.frozen? ⟨g,o,none⟩=false/\g<w.heap.size :=
 ⟨(AuJ w g o _ _ _ h.tab).trans hx,AuK w g o _ _ h.tab,(ArN h.tab).1⟩
end
theorem AoK {w:World} {base size k n c:Nat} {e:TypeId} {A:Option Addr} {xs:List Value} (h:w.ownsRow base e size (.slice A k c) n xs):n<=c:=by
 rcases h.2 with ⟨h1,h2⟩|⟨g,cap,cur,h1,-,-,h2,-⟩
 ·cases h1;omega
 cases h1;exact h2
structure TableFar (N:Nat) (w:World) (m:TableM):Prop where
 p0:LTx.Row w m.A0 m.t.names/\NewR N m.A0 m.t.names
 p1:LBo.Row w m.A1 m.t.points/\NewR N m.A1 m.t.points
 p2:LTx.Row w m.A2 m.t.sigs/\NewR N m.A2 m.t.sigs
 p4:RoutesFar N w m.A4 m.t.routes
 p5:SetsNew N w m.A5 m.t.bars
 q:m.t.names.length<=m.c0
section
variable {N : Nat} {w w' : World} {m : TableM}
theorem TableFar.in_ (h:TableFar N w m):TableIn w m:=⟨h.p0.1,h.p1.1,h.p2.1,h.p4.in_,h.p5.in_⟩
theorem TableFar.below (h:TableFar N w m) (hb:Below w.heap.size w w'):TableFar N w' m:=⟨⟨h.p0.1.below rfl hb,h.p0.2⟩,⟨h.p1.1.below rfl hb,h.p1.2⟩,⟨h.p2.1.below rfl hb,h.p2.2⟩,h.p4.below hb,h.p5.below hb,h.q⟩
theorem TableFar.base (h:TableFar N w m) {N':Nat} (hn:N'<=N):TableFar N' w m:=⟨⟨h.p0.1,h.p0.2.base hn⟩,⟨h.p1.1,h.p1.2.base hn⟩,⟨h.p2.1,h.p2.2.base hn⟩,h.p4.base hn,h.p5.base hn,h.q⟩
theorem TableFar.off (h:TableFar N w m) {B:Nat} {cs:Array Value} {t:TypeId} {fr:Nat × Nat} (hB:w.heap[B]?=some (.cells cs t fr)) (ht:t≠123) (hN:B<N) (hs:w.heap.size<=w'.heap.size) (hk:∀ b,b≠B->w'.heap[b]?=w.heap[b]?):TableFar N w' m:=by
 have hk':∀ b,b<w.heap.size->b≠B->w'.heap[b]?=w.heap[b]?:=λb _ hb=>hk b hb
 have row:∀ {α:Type} {E:Lies α} {A:Option Addr} {L:List α},E.Row w A L/\NewR N A L->E.Row w' A L/\NewR N A L:=λh=>⟨(ApartR.new h.1 h.2 (k:=some B) (λj hj=>by cases hj;exact hN)).off hs hk' |>.1,h.2⟩
 refine ⟨row h.p0,row h.p1,row h.p2,?_,(h.p5.apart (k:=some B) (λj hj=>by cases hj;exact hN)).off hs hk' |>.new,h.q⟩
 obtain ⟨M,h1,h2,h3⟩:=h.p4
 refine ⟨M,h1,row h2,λm hm=>?_⟩
 obtain ⟨hp,hf⟩:=h3 m hm
 refine ⟨⟨((hf.p1.apart hp.p1 hB ht hN).off hs hk').1,((hf.p2.apart hp.p2 hB ht hN).off hs hk').1,((hf.p3.apart hp.p3 hB ht hN).off hs hk').1,((hf.p4.apart hp.p4 hB ht hN).off hs hk').1,((hf.p5.apart hp.p5 hB ht hN).off hs hk').1,hp.q⟩,hf.kept λb cs' fr' e=>hk b λe'=>?_⟩
 subst e'
 rw [hB] at e
 cases e
 exact ht rfl
end
theorem TableFar.up {N g:Nat} {w2 w5 w6 w:World} {A0 A1 A2 A4 A5:Option Addr} {c0 c1 c2 c4 c5:Nat} {cs cs':Array Value} {v1:Value} {Ns Ss:List Pl.Nm} {Ps:List Bool} {se:Int} {R:List Rt.Route} {B:List (List Nat)} {n s k:Nat} (hn:Ns.length=n) (hk:Ps.length=k) (hs:Ss.length=s)
 (h:TbB g w5 w6 cs (.slice A0 n c0) Ns (.slice A1 k c1) Ps) (h':TbB g w6 w cs' (.slice A2 s c2) Ss v1 []) (hR:RoutesFar N w2 A4 R) (hb:Below w2.heap.size w2 w5) (hg:w2.heap.size<=g) (hS:SetsAp w2.heap.size w5 (some g) A5 B) (hN:N<=w2.heap.size):TableFar N w ⟨A0,c0,A1,c1,A2,c2,A4,c4,A5,c5,⟨Ns,Ps,Ss,se,R,B⟩⟩:=by
 have h25:=hb.size
 have hl:=h.lt
 have hw:=h.but.trans h'.but
 have row:∀ {α:Type} {E:Lies α} {t:TypeId} {A:Option Addr} {c n:Nat} {L:List α},L.length=n->w6.ownsRow w5.heap.size t E.m (.slice A n c) L.length (E.all L)->E.Row w A L/\NewR N A L:=λhn ho=>by
  subst hn
  obtain ⟨-,A',c',e,-,hr⟩:=Lies.Row.of_own ho
  cases e
  have hnew:=iE ho
  exact ⟨h'.but.row (ApartR.new hr hnew (λj hj=>by cases hj;exact hl)),hnew.base (by omega)⟩
 refine ⟨row hn h.own0,row hk h.own1,?_,?_,(hw.sets hS).base hN,?_⟩
 ·subst hs
  obtain ⟨-,A',c',e,-,hr⟩:=Lies.Row.of_own h'.own0
  cases e
  exact ⟨hr,(iE h'.own0).base (by have:=h.but.size;omega)⟩
 ·exact hR.below (hb.trans (hw.to hg h25))
 exact AoK h.own0
def TableMade (x:Tb.Table × Int) (w:World) (e:Ending) (w':World):Prop:=∃ m:TableM,m.t=x.1/\e=.returned (.tuple #[tbV m,.int .i64 x.2])/\TableFar w.heap.size w' m/\Below w.heap.size w w'
theorem TableMade.yes {x:Tb.Table × Int} {w:World} {e:Ending} {w':World} (h:TableMade x w e w'):AlZ x w e w':=by
 obtain ⟨m,h1,h2,h3,h4⟩:=h
 exact ⟨m,h1,h2,h3.in_,h4⟩
abbrev tbZ:Obj:=.cells #[.slice none 0 0,.slice none 0 0,.slice none 0 0,.int .i64 0,.slice none 0 0,.slice none 0 0] 34
theorem TableFar.zero (N:Nat) (w:World):TableFar N w ⟨none,0,none,0,none,0,none,0,none,0,Tb.zero⟩ :=
 ⟨⟨.inl rfl,λh=>absurd rfl h⟩,⟨.inl rfl,λh=>absurd rfl h⟩,⟨.inl rfl,λh=>absurd rfl h⟩,.nil _ _,.nil _ _,ArT _⟩
theorem sH {W:World} {B b:Nat} {v0 v1 v2 v3 v4 v5:Value} (h:b≠B) :
 ((((((W.setCell ⟨B,0,none⟩ v0).setCell ⟨B,1,none⟩ v1).setCell ⟨B,2,none⟩ v2).setCell ⟨B,3,none⟩ v3).setCell ⟨B,4,none⟩ v4).setCell ⟨B,5,none⟩ v5).heap[b]?=W.heap[b]?:=by
 repeat (rw[AuI _ _ _ _ h])
theorem jK {n:Nat} {w W:World} {B:Nat} {v0 v1 v2 v3 v4 v5:Value} (h:Below n w W) (hB:n<=B) :
 Below n w ((((((W.setCell ⟨B,0,none⟩ v0).setCell ⟨B,1,none⟩ v1).setCell ⟨B,2,none⟩ v2).setCell ⟨B,3,none⟩ v3).setCell ⟨B,4,none⟩ v4).setCell ⟨B,5,none⟩ v5) :=
 (((((h.setCell (p:=⟨B,0,none⟩) hB _).setCell (p:=⟨B,1,none⟩) hB _).setCell (p:=⟨B,2,none⟩) hB _).setCell (p:=⟨B,3,none⟩) hB _).setCell (p:=⟨B,4,none⟩) hB _).setCell (p:=⟨B,5,none⟩) hB _
theorem SetsNew.laid {N N':Nat} {w:World} {A:Option Addr} {R:List (List Nat)} (h:SetsNew N w A R) (hn:N'<=N) (o:Obj):SetsAp N' (w.alloc o) (some w.heap.size) A R :=
 ((h.next (ArT _)).below ((Below.refl _ _).alloc (ArT _) _)).base hn
theorem SetsNew.put6 {N N':Nat} {W:World} {A:Option Addr} {R:List (List Nat)} (h:SetsNew N W A R) {B:Nat} (hB:B<N) (hn:N'<=N) {v0 v1 v2 v3 v4 v5:Value}:SetsAp N' ((((((W.setCell ⟨B,0,none⟩ v0).setCell ⟨B,1,none⟩ v1).setCell ⟨B,2,none⟩ v2).setCell ⟨B,3,none⟩ v3).setCell ⟨B,4,none⟩ v4).setCell ⟨B,5,none⟩ v5) (some B) A R :=
 ((h.apart (k:=some B) (λj hj=>by cases hj;exact hB)).off (by simp) (λb _ hb=>sH hb)).base hn
theorem AhQ {W:World} {B:Nat} {x0 x1 x2 x3 x4 x5 v0 v1 v2 v3 v4 v5:Value} {t:TypeId} (h:W.heap[B]?=some (.cells #[x0,x1,x2,x3,x4,x5] t (0,0))) :
 ((((((W.setCell ⟨B,0,none⟩ v0).setCell ⟨B,1,none⟩ v1).setCell ⟨B,2,none⟩ v2).setCell ⟨B,3,none⟩ v3).setCell ⟨B,4,none⟩ v4).setCell ⟨B,5,none⟩ v5).heap[B]?=some (.cells #[v0,v1,v2,v3,v4,v5] t (0,0)) :=
 AuL _ _ _ _ _ _ (AuL _ _ _ _ _ _ (AuL _ _ _ _ _ _ (AuL _ _ _ _ _ _ (AuL _ _ _ _ _ _ (AuL _ _ _ _ _ _ h)))))
theorem TableMade.put {x:Tb.Table × Int} {w W:World} {N B:Nat} {m:TableM} {cs:Array Value} {fr:Nat × Nat} {v0 v1 v2 v3 v4 v5:Value} (hm:m.t=x.1) (h:TableFar N W m) (hB:W.heap[B]?=some (.cells cs 34 fr)) (hN:B<N) (hw:w.heap.size<=B) (hb:Below w.heap.size w W) :
 TableMade x w (.returned (.tuple #[tbV m,.int .i64 x.2])) ((((((W.setCell ⟨B,0,none⟩ v0).setCell ⟨B,1,none⟩ v1).setCell ⟨B,2,none⟩ v2).setCell ⟨B,3,none⟩ v3).setCell ⟨B,4,none⟩ v4).setCell ⟨B,5,none⟩ v5) :=
 ⟨m,hm,rfl,(h.off hB (by decide) hN (by simp) λb hb=>sH hb).base (by omega),jK hb hw⟩
open Go.RowKit
theorem gR {l:List UInt8} {p:Pl.Plan} (h:fZ l=some p):Pl.Fit p/\Lp.Meas p/\(0<=p.ap/\p.ap<=1125899906842624)/\(0<=p.ho/\p.ho<=1099511627776):=by
 obtain ⟨hf,L,hL,hS,e⟩:=oZ h
 refine ⟨hf,?_⟩
 rw [e]
 have h1:=Nr.ap_fin hL
 exact ⟨Lp.meas_fin hL hS,⟨h1.1,by omega⟩,Rt.ho_fin hL⟩
namespace Rt
def Small (r:Route):Prop:=r.steps.length<=1000/\r.lap.length<=1000/\r.pts.length<=1000/\r.fl.length<=1000/\r.near.length<=1000
theorem AcJ:Small zero:=⟨by decide,by decide,by decide,by decide,by decide⟩
theorem AcK {p:Pl.Plan} (hf:Pl.Fit p) {i:Nat} {w:Cr.Way} (hw:w∈(Cr.of p i).1):Small (fill p i w (Lp.of p i w).1):=by
 have h1:=Cr.of_steps hw
 have h2:=Lp.of_steps (p:=p) (i:=i) (w:=w)
 have h3:=Fl.of_len p (w.steps++(Lp.of p i w).1)
 have h4:=Dm.dN p (w.steps++(Lp.of p i w).1) (w.steps++(Lp.of p i w).1).length
 rw [List.take_length] at h4
 have h5:(w.steps++(Lp.of p i w).1).length=w.steps.length+(Lp.of p i w).1.length:=ArX
 have h6:=Nr.of_len hf (i:=(i:Int))
 refine ⟨?_,?_,?_,?_,?_⟩
 ·show w.steps.length<=1000;omega
 ·show (Lp.of p i w).1.length<=1000;omega
 ·show (Fl.of p (w.steps++(Lp.of p i w).1)).pts.length<=1000;omega
 ·show (Fl.of p (w.steps++(Lp.of p i w).1)).fl.length<=1000;omega
 show ((Nr.of p i).1.map _).length<=1000;rw[AtE];omega
theorem AmE {p:Pl.Plan} (hf:Pl.Fit p) {i:Nat} {w:Cr.Way} (hw:w∈(Cr.of p i).1):Small (of p i w).1:=by
 by_cases h:(Lp.of p i w).2=0
 ·rw[of_ok h];exact AcK hf hw
 rw [of_bad h];exact AcJ
theorem sI {p:Pl.Plan} (hf:Pl.Fit p):∀ r∈(all p).1,Small r:=all_each λ_ _ _ hw _=>AmE hf hw
end Rt
end Go.Proofs.YtncphjodaklleaaGreat
