/- Lemmas. -/
import Derived.Test.YtjofpclmbjpgjaaGreatMk29
set_option maxHeartbeats 16000000
set_option maxRecDepth 100000
namespace Go.Proofs.YtjofpclmbjpgjaaGreat
open Lib (hid)
open Go.RowKit
theorem yT (w:World) (a b:Obj):((w.alloc a).alloc b).heap[w.heap.size]?=some a/\((w.alloc a).alloc b).heap[w.heap.size+1]?=some b/\Below w.heap.size w ((w.alloc a).alloc b):=by
 have s1:(w.alloc a).heap.size=w.heap.size+1:=by simp
 refine⟨?_,?_,((Below.refl _ _).alloc (ArR _) _).alloc (by omega) _⟩
 ·rw[heap_alloc_old _ _ (by omega)];exact AsW _ _
 rw[<-s1];exact AsW _ _
theorem mJ (m m':RouteM) (w:World) (h:PartsIn w m) (h':PartsIn w m') (hl:m.r.lap.length<=1000000) (hs':m'.r.steps.length<=1000000) (hl':m'.r.lap.length<=1000000) :
 Calls Tryz.prog 114 #[rtV m,rtV m'] w (OneIs (.bool (Cl.meets m.r m'.r)) w):=by
 --[
 obtain⟨R1,R2,XX⟩:=yT w (rtO m) (rtO m')
 have X:=hid XX
 have P:=hid (h.below XX)
 have P':=hid (h'.below XX)
 have CL:=hid (λW=>yS m m' W)
 show Calls Tryz.prog 114 #[rtV m,rtV m'] w (OneIs (.bool (!Cl.leads m.r m'.r && (Cl.share m.r.lap m'.r.steps || Cl.share m.r.lap m'.r.lap))) w)
 have C1:=hid (λW (hW:Below ((w.alloc (rtO m)).alloc (rtO m')).heap.size ((w.alloc (rtO m)).alloc (rtO m')) W)=>gP m.A2 m.c2 m.r.lap m'.A1 m'.c1 m'.r.steps W (P.out.p2.below rfl hW) hl (P'.out.p1.below rfl hW) hs')
 have C2:=hid (λW (hW:Below ((w.alloc (rtO m)).alloc (rtO m')).heap.size ((w.alloc (rtO m)).alloc (rtO m')) W)=>gP m.A2 m.c2 m.r.lap m'.A2 m'.c2 m'.r.lap W (P.out.p2.below rfl hW) hl (P'.out.p2.below rfl hW) hl')
 generalize Cl.share m.r.lap m'.r.steps=z1 at C1 ⊢
 generalize Cl.share m.r.lap m'.r.lap=z2 at C2 ⊢
 generalize Cl.leads m.r m'.r=z0 at CL ⊢
 clear h h' XX
 go_enter Tryz.func114,Tryz.ntmps114
 go_upto_region 1 with fail
 generalize (w.alloc (rtO m)).alloc (rtO m')=w2 at X P P' R1 R2 C1 C2 ⊢
 generalize w.heap.size+1=g2 at R2 ⊢
 generalize hg:w.heap.size=g at R1 ⊢
 obtain⟨⟨p0,p1,p2,p3,p4,p5,p6,p7,p8⟩,-,gx⟩:=row9 R1
 obtain⟨⟨q0,q1,q2,q3,q4,q5,q6,q7,q8⟩,-,gy⟩:=row9 R2
 have K:=hid (λW (hW:Below w2.heap.size w2 W)=>AsG (AsG ((hW.cell (p:=⟨g,3,none⟩) gx).trans p3) ((hW.cell (p:=⟨g2,2,none⟩) gy).trans q2)) ((hW.cell (p:=⟨g2,3,none⟩) gy).trans q3))
 have X2:=hid (AtB w2)
 clear hg R1 R2 hl hs' hl'
 go_wp2_with fail
 refine(CL.out _).mono ?_;rintro e w3 ⟨rfl,hb3⟩
 obtain⟨⟨k3,k2⟩,k4⟩:=K.out _ hb3
 have B3:=hid hb3
 have F3:=hid (X.out.trans (hb3.mono X.out.size))
 clear hb3 p0 p1 p2 p3 p4 p5 p6 p7 p8 q0 q1 q2 q3 q4 q5 q6 q7 q8 gx gy CL
 cases z0 with
 | true =>
   go_wp2
   go_ret
   exact⟨rfl,F3.out⟩
 | false =>
   go_wp2_with fail
   refine(C1.out _ B3.out).mono ?_;rintro e w4 ⟨rfl,hb4⟩
   have B4:=hid (B3.out.trans (hb4.mono B3.out.size))
   have F4:=hid (F3.out.trans (hb4.mono F3.out.size))
   clear hb4 k3 k2 k4 C1
   obtain⟨⟨k3,k2⟩,k4⟩:=K.out _ B4.out
   cases z1 with
   | true =>
     go_wp2
     go_ret
     exact⟨rfl,F4.out⟩
   | false =>
     go_wp2_with fail
     refine(C2.out _ B4.out).mono ?_;rintro e w5 ⟨rfl,hb5⟩
     have F5:=hid (F4.out.trans (hb5.mono F4.out.size))
     clear hb5
     go_wp2
     go_ret
     exact⟨rfl,F5.out⟩
 --]
theorem AcM (m m':RouteM) (w:World) (h:PartsIn w m) (h':PartsIn w m') (ht:Cl.Tiny m.r) (ht':Cl.Tiny m'.r) :
 Calls Tryz.prog 71 #[rtV m,rtV m'] w (OneIs (.bool (Cl.bars m.r m'.r)) w):=by
 --[
 obtain⟨hs,hl,hp⟩:=ht
 obtain⟨hs',hl',hp'⟩:=ht'
 obtain⟨R1,R2,XX⟩:=yT w (rtO m) (rtO m')
 have X:=hid XX
 have P:=hid (h.below XX)
 have P':=hid (h'.below XX)
 show Calls Tryz.prog 71 #[rtV m,rtV m'] w (OneIs (.bool ((m.r.entry == m'.r.entry) || Cl.share m.r.steps m'.r.steps || Cl.opp m.r.pts m'.r.pts || Cl.meets m.r m'.r || Cl.meets m'.r m.r)) w)
 have C1:=hid (λW (hW:Below ((w.alloc (rtO m)).alloc (rtO m')).heap.size ((w.alloc (rtO m)).alloc (rtO m')) W)=>gP m.A1 m.c1 m.r.steps m'.A1 m'.c1 m'.r.steps W (P.out.p1.below rfl hW) hs (P'.out.p1.below rfl hW) hs')
 have C2:=hid (λW (hW:Below ((w.alloc (rtO m)).alloc (rtO m')).heap.size ((w.alloc (rtO m)).alloc (rtO m')) W)=>AhU m.A3 m.c3 m.r.pts m'.A3 m'.c3 m'.r.pts W (P.out.p3.below rfl hW) hp (P'.out.p3.below rfl hW) hp')
 have C3:=hid (λW (hW:Below ((w.alloc (rtO m)).alloc (rtO m')).heap.size ((w.alloc (rtO m)).alloc (rtO m')) W)=>mJ m m' W (P.out.below hW) (P'.out.below hW) hl hs' hl')
 have C4:=hid (λW (hW:Below ((w.alloc (rtO m)).alloc (rtO m')).heap.size ((w.alloc (rtO m)).alloc (rtO m')) W)=>mJ m' m W (P'.out.below hW) (P.out.below hW) hl' hs hl)
 generalize hz:(m.r.entry == m'.r.entry)=z0
 have HZ:=hid hz
 clear hz
 generalize Cl.share m.r.steps m'.r.steps=z1 at C1 ⊢
 generalize Cl.opp m.r.pts m'.r.pts=z2 at C2 ⊢
 generalize Cl.meets m.r m'.r=z3 at C3 ⊢
 generalize Cl.meets m'.r m.r=z4 at C4 ⊢
 clear h h' XX
 go_enter Tryz.func71,Tryz.ntmps71
 go_upto_region 1 with fail
 generalize (w.alloc (rtO m)).alloc (rtO m')=w2 at X P P' R1 R2 C1 C2 C3 C4 ⊢
 generalize w.heap.size+1=g2 at R2 ⊢
 generalize hg:w.heap.size=g at R1 ⊢
 have X2:=hid (AtB w2)
 have gx:=(row9 R1).2.2
 have gy:=(row9 R2).2.2
 have K:=hid (λW (hW:Below w2.heap.size w2 W)=>AsG (row9 ((hW.block _ gx).trans R1)).1 (row9 ((hW.block _ gy).trans R2)).1)
 clear hg R1 R2 hl hs' hl' hs hp hp' gx gy
 obtain⟨⟨p0,p1,p2,p3,p4,p5,p6,p7,p8⟩,q0,q1,q2,q3,q4,q5,q6,q7,q8⟩:=K.out _ X2.out
 have hz:=HZ.out
 clear HZ
 cases z0 with
 | true =>
   go_wp2
   go_ret
   exact⟨rfl,X.out⟩
 | false =>
   go_wp2_with fail
   refine(C1.out _ X2.out).mono ?_;rintro e w3 ⟨rfl,hb3⟩
   have B3:=hid hb3
   have F3:=hid (X.out.trans (hb3.mono X.out.size))
   clear hb3 p0 p1 p2 p3 p4 p5 p6 p7 p8 q0 q1 q2 q3 q4 q5 q6 q7 q8 hz C1
   cases z1 with
   | true =>
     go_wp2
     go_ret
     exact⟨rfl,F3.out⟩
   | false =>
     obtain⟨⟨p0,p1,p2,p3,p4,p5,p6,p7,p8⟩,q0,q1,q2,q3,q4,q5,q6,q7,q8⟩:=K.out _ B3.out
     go_wp2_with fail
     refine(C2.out _ B3.out).mono ?_;rintro e w4 ⟨rfl,hb4⟩
     have B4:=hid (B3.out.trans (hb4.mono B3.out.size))
     have F4:=hid (F3.out.trans (hb4.mono F3.out.size))
     clear hb4 p0 p1 p2 p3 p4 p5 p6 p7 p8 q0 q1 q2 q3 q4 q5 q6 q7 q8 C2 B3 F3
     cases z2 with
     | true =>
       go_wp2
       go_ret
       exact⟨rfl,F4.out⟩
     | false =>
       obtain⟨⟨p0,p1,p2,p3,p4,p5,p6,p7,p8⟩,q0,q1,q2,q3,q4,q5,q6,q7,q8⟩:=K.out _ B4.out
       go_wp2_with fail
       refine(C3.out _ B4.out).mono ?_;rintro e w5 ⟨rfl,hb5⟩
       have B5:=hid (B4.out.trans (hb5.mono B4.out.size))
       have F5:=hid (F4.out.trans (hb5.mono F4.out.size))
       clear hb5 p0 p1 p2 p3 p4 p5 p6 p7 p8 q0 q1 q2 q3 q4 q5 q6 q7 q8 C3 B4 F4
       cases z3 with
       | true =>
         go_wp2
         go_ret
         exact⟨rfl,F5.out⟩
       | false =>
         obtain⟨⟨p0,p1,p2,p3,p4,p5,p6,p7,p8⟩,q0,q1,q2,q3,q4,q5,q6,q7,q8⟩:=K.out _ B5.out
         go_wp2_with fail
         refine(C4.out _ B5.out).mono ?_;rintro e w6 ⟨rfl,hb6⟩
         have F6:=hid (F5.out.trans (hb6.mono F5.out.size))
         clear hb6 p0 p1 p2 p3 p4 p5 p6 p7 p8 q0 q1 q2 q3 q4 q5 q6 q7 q8 C4 B5 F5
         go_wp2
         go_ret
         exact⟨rfl,F6.out⟩
 --]
theorem Cl.get_at {L:List Rt.Route} {k:Nat} {y:Rt.Route} (h:L[k]?=some y):L.getD k Rt.zero=y:=by rw[List.getD_eq_getElem?_getD,h];rfl
theorem vB (A:Option Addr) (c:Nat) (L:List Rt.Route) (i:Nat) (w:World) (h:RoutesIn w A L) (hs:∀ r∈L,Cl.Tiny r) (ha:i<L.length) (hl:L.length<=1000000) :
 Calls Tryz.prog 34 #[.slice A L.length c,.int .i64 i] w λe w'=>∃ v,e=.returned v/\w'.ownsRow w.heap.size 3 aF.m v (Cl.barred L i L.length).length (aF.all (Cl.barred L i L.length))/\Below w.heap.size w w':=by
 --[
 have HR:=hid h
 have HS:=hid hs
 have B0:=hid (AtB w)
 have O0:=hid (show w.ownsRow w.heap.size 3 aF.m (.slice none 0 0) (Cl.barred L i 0).length (aF.all (Cl.barred L i 0)) from⟨rfl,.inl ⟨rfl,rfl⟩⟩)
 obtain⟨i0,hi,hz0,hz1,hz2⟩:=info_parts AmD
 clear h hs
 go_enter Tryz.func34,Tryz.ntmps34
 go_wp2_with fail
 go_loopw [5,6,7,10] (λv5 _ _ v10 w'=>∃ k:Nat,k<=L.length/\v10=.int .i64 k/\w'.ownsRow w.heap.size 3 aF.m v5 (Cl.barred L i k).length (aF.all (Cl.barred L i k))/\Below w.heap.size w w') (λ_ _ _ v10 _=>L.length-(intOf v10).toNat)
 case atStart=>exact⟨0,AsD _,rfl,O0.out,B0.out⟩
 case round =>
  obtain⟨k,hk,rfl,ho,hb⟩:=hrel
  have HB:=hid hb
  have HO:=hid ho
  by_cases hlt:k<L.length
  ·have hy:=ArN hlt
   have hya:=ArN ha
   obtain⟨b,o,m,rfl,hbb,hm,hon,hP⟩:=(HR.out.below hb).at hy
   obtain⟨b',o',ma,hA,-,hma,hona,hPa⟩:=(HR.out.below hb).at hya
   cases hA
   have hH:Cl.hit L i k=(decide (k≠i) && Cl.bars ma.r m.r):=by
    unfold Cl.hit
    rw[Cl.get_at hya,Cl.get_at hy,hm,hma]
   have HT:=hid (Cl.barred_succ L i k)
   rw[hH] at HT
   have ht:=HS.out _ (List.getElem_mem hlt)
   have hta:=HS.out _ (List.getElem_mem ha)
   rw[<-hm] at ht
   rw[<-hma] at hta
   have hBL:=Cl.barred_len L i k
   obtain⟨p0,p1,p2,p3,p4,p5,p6,p7,p8⟩:=mE hon
   have T0:=AtB wr
   have T4:=hid (T0.alloc (ArR _) (rtO m))
   have S4:=hid (AsW wr (rtO m))
   obtain⟨d1,k0,k1⟩:=ArK (show k<L.length by omega)
   have j0:(0:Int)<=(i:Int):=ArT i
   have j1:(i:Int)<(L.length:Int):=by omega
   have KA:=hid (λW (hW:Below wr.heap.size wr W)=>mE (λj v hv=>(hW.cell (p:=⟨b,o+i*9+j,none⟩) hbb).trans (hona j v hv):LRt.On W b (o+i*9) ma))
   have CB:=hid (λW (hW:Below wr.heap.size wr W)=>AcM ma m W (hPa.below hW) (hP.below hW) hta ht)
   generalize hzz:Cl.bars ma.r m.r=z at HT CB
   generalize hX:Cl.barred L i k=X at HO HT hBL
   clear hzz hX hH hy hya hm hma ht hta hona hP hPa hb ho T0 hon
   go_upto_region 5 with fail
   generalize wr.alloc (rtO m)=w4 at T4 S4 ⊢
   generalize hg:wr.heap.size=g at S4 ⊢
   have G4:=hid (show w.heap.size<=g from by rw[<-hg];exact HB.out.size)
   obtain⟨⟨q0,q1,q2,q3,q4,q5,q6,q7,q8⟩,-,gl⟩:=row9 S4.out
   have B4:=hid (HB.out.trans (T4.out.mono HB.out.size))
   have O4:=hid (aA HO.out T4.out)
   clear p0 p1 p2 p3 p4 p5 p6 p7 p8 hg
   by_cases hka:k=i
   ·have E:((k:Int) != (i:Int))=false:=by rw[bne_eq_false_iff_eq];omega
    have HT2:=hid (show Cl.barred L i (k+1)=X from by have:=HT.out;rwa [decide_eq_false (p:=k≠i) (λh=>h hka),Bool.false_and,ArY (by decide),AsM] at this)
    clear hka
    go_quiet (fail)
    go_wp2
    go_roundw
    case rel=>exact⟨k+1,by omega,by go_num,by rw[HT2.out];exact aA O4.out (aH (Below.refl _ _) _),aH B4.out _⟩
    case measure=>simp[intOf];omega
   have E:((k:Int) != (i:Int))=true:=by rw[AsV];omega
   have HT2:=hid (show Cl.barred L i (k+1)=X++if z=true then [(k:Int)] else [] from by have:=HT.out;rwa [decide_eq_true (p:=k≠i) hka,Bool.true_and] at this)
   have V0:=hid (AtB w4)
   have K2:=hid (λW (hW:Below w4.heap.size w4 W)=>AsG (KA.out W (T4.out.trans (hW.mono T4.out.size))) (row9 ((hW.block _ gl).trans S4.out)).1)
   clear hka q0 q1 q2 q3 q4 q5 q6 q7 q8 gl
   go_region_held3 (λW'=>(W'.cell? ⟨b,o+i*9,none⟩=some (.int .i64 ma.r.entry)/\W'.cell? ⟨b,o+i*9+1,none⟩=some (.int .i64 ma.r.exit)/\W'.cell? ⟨b,o+i*9+2,none⟩=some (.slice ma.A1 ma.r.steps.length ma.c1)/\W'.cell? ⟨b,o+i*9+3,none⟩=some (.slice ma.A2 ma.r.lap.length ma.c2)/\W'.cell? ⟨b,o+i*9+4,none⟩=some (.slice ma.A3 ma.r.pts.length ma.c3)/\W'.cell? ⟨b,o+i*9+5,none⟩=some (.slice ma.A4 ma.r.fl.length ma.c4)/\W'.cell? ⟨b,o+i*9+6,none⟩=some (.slice ma.A5 ma.r.near.length ma.c5)/\W'.cell? ⟨b,o+i*9+7,none⟩=some (.int .i64 ma.r.dist)/\W'.cell? ⟨b,o+i*9+8,none⟩=some (.int .i64 ma.r.timer)) /\
    W'.cell? ⟨g,0,none⟩=some (.int .i64 m.r.entry)/\W'.cell? ⟨g,1,none⟩=some (.int .i64 m.r.exit)/\W'.cell? ⟨g,2,none⟩=some (.slice m.A1 m.r.steps.length m.c1)/\W'.cell? ⟨g,3,none⟩=some (.slice m.A2 m.r.lap.length m.c2)/\W'.cell? ⟨g,4,none⟩=some (.slice m.A3 m.r.pts.length m.c3)/\W'.cell? ⟨g,5,none⟩=some (.slice m.A4 m.r.fl.length m.c4)/\W'.cell? ⟨g,6,none⟩=some (.slice m.A5 m.r.near.length m.c5)/\W'.cell? ⟨g,7,none⟩=some (.int .i64 m.r.dist)/\W'.cell? ⟨g,8,none⟩=some (.int .i64 m.r.timer))
    (first|with_reducible exact K2.out _ V0.out.drew|with_reducible exact K2.out _ h5|(go_keep;done))
    (first|(go_at_call 71;(with_reducible refine(CB.out _ (T4.out.trans (V0.out.drew.mono T4.out.size))).mono ?_);rintro e5 w5 ⟨rfl,hb5⟩;have h5:=V0.out.drew.trans (hb5.mono V0.out.drew.size)))
   have B5:=hid (B4.out.trans (h5.mono B4.out.size))
   have O5:=hid (aA O4.out h5)
   clear K2 CB KA h5
   cases z with
   | false =>
     go_wp2
     go_roundw
     case rel=>exact⟨k+1,by omega,by go_num,by rw[HT2.out,ArY (by decide),AsM];exact O5.out,B5.out⟩
     case measure=>simp[intOf];omega
   | true =>
     have HR1:=hid (AmC w5 (k:Int) rfl)
     have HO1:=hid (O5.out.alloc (.cells #[.int .i64 (k:Int)] 3))
     have HB1:=hid (B5.out.alloc B5.out.size (.cells #[.int .i64 (k:Int)] 3))
     go_wp2_with (at_builtin;refine aZ aF rfl (.tmp 26) (.tmp 28) 90 rfl w.heap.size 3 i0 _ 8 Tryz.underlying90 hi hz0 hz1 hz2 rfl _ X.length (aF.all X) rfl HO1.out (some ⟨w5.heap.size,0,none⟩) 1 1 [(k:Int)] rfl rfl HR1.out (by omega) (by omega) (by have:=B5.out.size;simp;omega) ?_;intro v6 w6 hown6 hg6)
     have HB6:=hid (Below.grown HB1.out hg6 HB1.out.size (λb hb=>(HO1.out.lt b hb).1))
     have HO6:=hid (show w6.ownsRow w.heap.size 3 aF.m v6 (X++[(k:Int)]).length (aF.all (X++[(k:Int)])) from by rw[ArV,aF.all_append];exact hown6)
     clear hown6 hg6
     go_wp2
     go_roundw
     case rel=>exact⟨k+1,by omega,by go_num,by rw[HT2.out,ArZ rfl];exact HO6.out,HB6.out⟩
     case measure=>simp[intOf];omega
  obtain rfl:k=L.length:=by omega
  have d1:decide ((L.length:Int)<(L.length:Int))=false:=aB (by omega)
  clear hb ho
  go_wp2
  go_ret
  exact⟨_,rfl,HO.out,HB.out⟩
 --]
theorem SetOwn.apart {L:List Nat} {w:World} {e:Ending} {w':World} (h:SetOwn L w e w') {k:Nat} (hk:k<w.heap.size):∃ A c,e=.returned (.slice A L.length c)/\(ApartR LWd w' (some k) A L/\NewR k A L)/\Below w.heap.size w w':=by
 obtain⟨v,rfl,ho,hb⟩:=h
 obtain⟨-,A,c,rfl,-,hR⟩:=Lies.Row.of_own (E:=LWd) ho
 have hn:=iB ho
 exact⟨A,c,rfl,⟨ApartR.new hR hn (λj hj=>by cases hj;exact hk),hn.base (Nat.le_of_lt hk)⟩,hb⟩
theorem kK (A:Option Addr) (c:Nat) (L:List Rt.Route) (w:World) (h:RoutesIn w A L) (hs:∀ r∈L,Cl.Tiny r) (hl:L.length<=1000000) :
 Calls Tryz.prog 14 #[.slice A L.length c] w (SetsMade (Cl.rows L) w):=by
 --[
 have HR:=hid h
 have X0:=(AtB w).alloc (ArR _) (.cells (fW.all (List.replicate L.length ⟨none,0,[]⟩)).toArray 80)
 have B0:=hid X0
 have U0:=hid (SetsUp.made w L.length)
 have CB:=hid (λ(i:Nat) (hi:i<L.length) W (hW:Below w.heap.size w W)=>vB A c L i W (h.below hW) hs hi hl)
 have CO:=hid (λ(i:Nat) (B:Option Addr) (d:Nat) W (hR:aF.Row W B (Cl.barred L i L.length))=>AmB (L.length:Int) B d (Cl.barred L i L.length) W (by omega) hR (ArS (Cl.barred_len L i L.length) hl) (λx hx=>by
  obtain⟨j,hj,-,rfl⟩:=Cl.mem_barred.1 hx
  omega))
 have hmk:=cK fW (P:=Tryz.prog) ⟨none,0,[]⟩ 32 80 (.slice none 0 0) 24 Tryz.underlying32 AeN rfl .i64 .i64 L.length (by omega) (by omega)
 have D1:decide ((11728124029610:Int)<(L.length:Int))=false:=aB (by omega)
 have RL:=hid (Cl.rows_len L)
 clear h hs X0
 go_enter Tryz.func14,Tryz.ntmps14
 go_wp2_with fail
 generalize w.alloc (.cells (fW.all (List.replicate L.length ⟨none,0,[]⟩)).toArray 80)=w1 at B0 U0 ⊢
 generalize hg:w.heap.size=g at U0 ⊢
 have GE:=hid hg
 clear hg
 go_loopw [4,10] (λ_ v10 w'=>∃ i:Nat,i<=L.length/\v10=.int .i64 i/\SetsUp w' g ((Cl.rows L).take i) (L.length-i)/\Below w.heap.size w w') (λ_ v10 _=>L.length-(intOf v10).toNat)
 case atStart=>exact⟨0,AsD _,rfl,U0.out,B0.out⟩
 case round =>
  obtain⟨i,hi,rfl,hU,hb⟩:=hrel
  have HB:=hid hb
  have HU:=hid hU
  clear hU hb
  by_cases hlt:i<L.length
  ·obtain⟨d1,i0,i1⟩:=ArK (show i<L.length by omega)
   have C1:=hid (CB.out i hlt wr HB.out)
   have HT:=hid (Cl.rows_take L hlt)
   have HTL:=hid (show ((Cl.rows L).take i).length=i from by rw[AsU,RL.out];omega)
   have HN:=hid (show L.length-i=(L.length-(i+1))+1 from by omega)
   have HX:=hid (show Bs.ofL (L.length:Int) (Cl.barred L i L.length)=Cl.row L i from rfl)
   have C2:=hid (λB d W hR=>CO.out i B d W hR)
   generalize Cl.barred L i L.length=X at C1 C2 HX
   go_wp2_with fail
   refine C1.out.mono ?_;rintro e w2 ⟨v,rfl,ho2,hb2⟩
   obtain⟨-,B,d,rfl,-,hR2⟩:=Lies.Row.of_own (E:=aF) ho2
   have C3:=hid (C2.out B d w2 hR2)
   rw[HX.out] at C3
   have U2:=hid (HU.out.below hb2)
   have B2:=hid (HB.out.trans (hb2.mono HB.out.size))
   clear ho2 hR2 hb2 C1 C2 HX
   go_wp2_with fail
   refine C3.out.mono ?_;rintro e w3 h3
   obtain⟨E,f,rfl,hA3,hb3⟩:=h3.apart U2.out.lt
   have U3:=U2.out.below hb3
   rw[HN.out] at U3
   obtain⟨c0,c1⟩:=U3.cell
   have U4:=hid (U3.put (c:=f) hA3)
   rw[HTL.out] at U4 c0 c1
   rw[<-HT.out] at U4
   have B4:=hid ((B2.out.trans (hb3.mono B2.out.size)).setCell (p:=⟨g,i,none⟩) (by rw[<-GE.out];exact ArR _) (.slice E (Cl.row L i).length f))
   clear hA3 hb3 U3 C3
   go_wp2
   go_roundw
   case rel=>exact⟨i+1,by omega,by go_num,U4.out,B4.out⟩
   case measure=>simp[intOf];omega
  obtain rfl:i=L.length:=by omega
  have d1:decide ((L.length:Int)<(L.length:Int))=false:=aB (by omega)
  have HS:=hid (show SetsNew g wr (some ⟨g,0,none⟩) (Cl.rows L) from by
   have:=HU.out
   rw[<-RL.out,List.take_length,Nat.sub_self] at this
   exact this.done)
  go_wp2
  go_ret
  exact⟨_,_,by rw[RL.out] <;> rfl,by rw[GE.out];exact HS.out,HB.out⟩
 --]
theorem vC (A:Option Addr) (c:Nat) (L:List Rt.Route) (w:World) (h:RoutesIn w A L) (hs:∀ r∈L,Cl.Tiny r) (hl:L.length<=1000000) :
 Calls Tryz.prog 14 #[.slice A L.length c] w (AeO (Cl.rows L) w):=(kK A c L w h hs hl).mono λ_ _ h=>h.yes
end Go.Proofs.YtjofpclmbjpgjaaGreat
