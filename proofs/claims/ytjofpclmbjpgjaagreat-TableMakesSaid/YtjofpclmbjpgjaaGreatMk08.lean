/- Lemmas. -/
import Derived.Test.YtjofpclmbjpgjaaGreatMk07
import Derived.Laws.AppendOwnNone
set_option maxHeartbeats 8000000
set_option maxRecDepth 100000
namespace Go.Proofs.YtjofpclmbjpgjaaGreat
open Lib (hid)
open Go.RowKit
def PlanAgg (p:Pl.Plan) (w:World) (e:Ending) (w':World):Prop :=
 ∃ A c A' c',p.secs.length<=c/\p.sigs.length<=c'/\e=.returned (.agg #[.int .i64 p.ov,.int .i64 p.ap,.int .i64 p.se,.int .i64 p.ho,.slice A p.secs.length c,.slice A' p.sigs.length c'])/\aQ.Row w' A p.secs/\bD.Row w' A' p.sigs/\(∀ a,A=some a->w.heap.size<=a.block)/\(∀ a,A'=some a->w.heap.size<=a.block)/\Below w.heap.size w w'
theorem AdW {α:Type} {E:Lies α} {w:World} {A:Option Addr} {L:List α} (h:E.Row w A L) (p:Addr) (v:Value) (hp:∀ a,A=some a->p.block<a.block):E.Row (w.setCell p v) A L:=by
 rcases h with h|⟨b,o,hA,hlt,h⟩
 ·exact .inl h
 exact .inr ⟨b,o,hA,by simpa using hlt,λk y hk j u hu=>by rw[World.cell?_setCell_far _ _ _ _ (Nat.ne_of_lt (show p.block<b from hp _ hA))];exact h k y hk j u hu⟩
def xI:Prop:=∀ (L:List It.Itm) (w:World) (A A':Option Addr) (c c':Nat),Pl.Ok L->aQ.Row w A (Pl.wS L)->bD.Row w A' (Pl.wG L) ->
 Calls Tryz.prog 24 #[.agg #[.int .i64 (Pl.num L 1),.int .i64 (Pl.num L 2),.int .i64 (Pl.num L 3),.int .i64 (Pl.num L 4),.slice A (Pl.wS L).length c,.slice A' (Pl.wG L).length c']] w (PlanAgg (Pl.fin L) w)
def AdX (y:It.Itm):Prop:=y.n<=9223372036854775807/\y.name.length<=1000/\y.e0.n.length<=1000/\y.e1.n.length<=1000
theorem AgQ (y:It.Itm) (w:World) (h:AdX y) :
 Calls Tryz.prog 21 #[lW y] w λe w'=>e=.returned (.bool (It.right y))/\Below w.heap.size w w':=by
 have:=xA y.k (txt y.name) y.n (txt y.e0.n) y.e0.c (txt y.e1.n) y.e1.c w h.1 (by rw[bJ];exact h.2.1) (by rw[bJ];exact h.2.2.1) (by rw[bJ];exact h.2.2.2)
 rwa [AnP] at this
theorem PlanGives.from {p:Pl.Plan × Int × Nat} {q:Pl.Plan} {w w':World} {e:Ending} {A A':Option Addr} {c c':Nat} (hp:p=(q,0,0)) (h1:q.secs.length<=c) (h2:q.sigs.length<=c')
 (he:e=.returned (.tuple #[.agg #[.int .i64 q.ov,.int .i64 q.ap,.int .i64 q.se,.int .i64 q.ho,.slice A q.secs.length c,.slice A' q.sigs.length c'],.agg #[.int .i64 0,.int .i64 0]])) (hS:aQ.Row w' A q.secs) (hG:bD.Row w' A' q.sigs) (hb:Below w.heap.size w w'):PlanGives p w e w':=by
 subst hp
 exact⟨A,c,A',c',h1,h2,he,hS,hG,hb⟩
theorem xJ {L:List It.Itm} {k:Nat} (hk:k<L.length):Pl.errAt L k=Pl.lineErr (L.take k) L[k]:=by
 unfold Pl.errAt
 rw[ArN hk];rfl
theorem hJ {L:List It.Itm} {k:Nat} (hk:k<L.length):Pl.lackAt L k=Pl.lackErr L L[k]:=by
 unfold Pl.lackAt
 rw[ArN hk];rfl
theorem iK {L:List It.Itm} {k:Nat} {e:Int} (hk:k<L.length) (hO:Pl.Ok (L.take k)) (he:Pl.lineErr (L.take k) L[k]=e) (h0:e≠0):Pl.build L=(Pl.Plan.zero,e,k+1):=by
 refine Pl.build_at hk ((xJ hk).trans he) h0 λj hj=>?_
 have:=(Pl.ok_iff _).2 hO j (by rw[AsU];omega)
 rwa [Pl.errAt_take hj (by omega)] at this
theorem qK {L:List It.Itm} {k:Nat} {e:Int} (hk:k<L.length) (hO:Pl.Ok L) (he:Pl.lackErr L L[k]=e) (h0:e≠0) (hj:∀ j<k,Pl.lackAt L j=0):Pl.build L=(Pl.Plan.zero,e,k+1):=by
 unfold Pl.build
 rw[Pl.firstE_none.2 ((Pl.ok_iff L).2 hO)]
 simp only
 rw[Pl.firstE_some.2 ⟨hk,by rw[hJ hk,he];exact h0,hj⟩]
 simp only[hJ hk,he]
theorem AgR {L:List It.Itm} (hO:Pl.Ok L) (hj:∀ j<L.length,Pl.lackAt L j=0):Pl.build L=(Pl.fin L,0,0) :=
 Pl.build_ok hO λx hx=>by
  obtain⟨j,hjl,rfl⟩:=List.getElem_of_mem hx
  rw[<-hJ hjl];exact hj j hjl
theorem row6 {w:World} {g:Nat} {a b c d e f:Value} {t:TypeId} (h:w.heap[g]?=some (.cells #[a,b,c,d,e,f] t (0,0))) :
 (w.cell? ⟨g,0,none⟩=some a/\w.cell? ⟨g,1,none⟩=some b/\w.cell? ⟨g,2,none⟩=some c/\w.cell? ⟨g,3,none⟩=some d/\w.cell? ⟨g,4,none⟩=some e/\w.cell? ⟨g,5,none⟩=some f) /\
 (w.frozen? ⟨g,0,none⟩=false/\w.frozen? ⟨g,1,none⟩=false/\w.frozen? ⟨g,2,none⟩=false/\w.frozen? ⟨g,3,none⟩=false/\w.frozen? ⟨g,4,none⟩=false/\w.frozen? ⟨g,5,none⟩=false)/\g<w.heap.size :=
 ⟨⟨AsY w g 0 _ t _ h,AsY w g 1 _ t _ h,AsY w g 2 _ t _ h,AsY w g 3 _ t _ h,AsY w g 4 _ t _ h,AsY w g 5 _ t _ h⟩,
   ⟨AsZ w g 0 _ t h,AsZ w g 1 _ t h,AsZ w g 2 _ t h,AsZ w g 3 _ t h,AsZ w g 4 _ t h,AsZ w g 5 _ t h⟩,(ArL h).1⟩
theorem cR (w:World) (a b c:Obj):(((w.alloc a).alloc b).alloc c).heap[w.heap.size]?=some a/\(((w.alloc a).alloc b).alloc c).heap[w.heap.size+1]?=some b/\(((w.alloc a).alloc b).alloc c).heap[w.heap.size+2]?=some c/\Below w.heap.size w (((w.alloc a).alloc b).alloc c):=by
 have s1:(w.alloc a).heap.size=w.heap.size+1:=by simp
 have s2:((w.alloc a).alloc b).heap.size=w.heap.size+2:=by simp
 refine⟨?_,?_,?_,(((Below.refl _ _).alloc (ArR _) _).alloc (by omega) _).alloc (by omega) _⟩
 ·rw[heap_alloc_old _ _ (by omega),heap_alloc_old _ _ (by omega)];exact AsW _ _
 ·rw[heap_alloc_old _ _ (by omega),<-s1];exact AsW _ _
 rw[<-s2];exact AsW _ _
theorem gK (HSrt:xI) (A:Option Addr) (c:Nat) (L:List It.Itm) (w:World) (h:Its w A L) (hl:L.length<=100000) (hf:∀ y∈L,AdX y) :
 Calls Tryz.prog 10 #[.slice A L.length c] w (PlanGives (Pl.build L) w):=by
 have HF:=hid hf
 have HI:=hid h
 have HSr:=hid HSrt
 clear hf h HSrt
 go_enter Tryz.func10,Tryz.ntmps10
 go_wp2_with fail
 go_loopw [5] (λv wr=>∃ k:Nat,k<=L.length/\v=.int .i64 k/\Pl.Ok (L.take k)/\WorkAt 73 56 58 wr (w.heap.size+2) (L.take k)/\wr.heap[w.heap.size]?=some (.cells #[.int .i64 0,.int .i64 0,.int .i64 0,.int .i64 0,.slice none 0 0,.slice none 0 0] 25 (0,0))/\wr.heap[w.heap.size+1]?=some (.cells #[.int .i64 0,.int .i64 0] 42 (0,0))/\Below w.heap.size w wr) (λv _=>L.length-(intOf v).toNat)
 case atStart =>
  refine⟨0,AsD _,rfl,Pl.Ok.nil,⟨.slice none 0 0,.slice none 0 0,?_,World.ownsRow_nil _ _ _ _,World.ownsRow_nil _ _ _ _,λk hk=>by simp[Value.ownBlock] at hk⟩,?_,?_,?_⟩
  ·exact(cR w _ _ _).2.2.1
  ·exact(cR w _ _ _).1
  ·exact(cR w _ _ _).2.1
  exact(cR w _ _ _).2.2.2
 case round =>
  obtain⟨k,hk,rfl,hO,hW,hP,hFt,hbel⟩:=hrel
  by_cases hlt:k<L.length
  ·obtain⟨b,o,rfl,hb,i7⟩:=(HI.out.below rfl hbel).at hlt
   obtain⟨a0,a1,a2,a3,a4,a5,a6⟩:=i7.cells
   clear i7
   have RC:=hid (AgQ L[k] wr (HF.out _ (List.getElem_mem hlt)))
   have TK:=hid (show L.take (k+1)=L.take k++[L[k]] by rw[AsK hlt])
   have hz:=hbel.size
   cases hr:It.right L[k]
   ·rw[hr] at RC
    have P:=hid (iK hlt hO ((Pl.lineErr_2 _ _).2 hr) (by decide))
    have HP:=hid hP
    have HFt:=hid hFt
    have HB:=hid hbel
    clear hr hO hW hP hFt hbel TK
    go_wp2_with fail
    refine RC.out.mono ?_;rintro e w1 ⟨rfl,hb1⟩
    obtain⟨⟨p0,p1,p2,p3,p4,p5⟩,⟨f0,f1,f2,f3,f4,f5⟩,gp⟩:=row6 (cQ HP.out hb1)
    obtain⟨⟨q0,q1⟩,⟨e0,e1⟩,gq⟩:=row2f (cQ HFt.out hb1)
    have BF:=hid (HB.out.trans (hb1.mono hz))
    clear hb1
    go_wp2_with fail
    refine bodyPost_ret ?_ rfl (PlanGives.bad _ _ P.out rfl ?_)
    ·simp[results,Tryz.results10,go_sem, *]
    (repeat (with_reducible refine Below.setCell ?_ (by first|exact ArR _|exact Nat.le_succ _) _));exact BF.out
   rw[hr] at RC
   have HO:=hid hO
   have HW:=hid hW
   have HP:=hid hP
   have HFt:=hid hFt
   have HB:=hid hbel
   have HR:=hid hr
   clear hr hO hW hP hFt hbel
   go_wp2_with fail
   refine RC.out.mono ?_;rintro e w1 ⟨rfl,hb1⟩
   have LN:=hid (AbE (w.heap.size+2) (L.take k) L[k] w1 (WorkL.below HW.out hb1) HO.out HR.out)
   have HP1:=hid (cQ HP.out hb1)
   have HF1:=hid (cQ HFt.out hb1)
   have HB1:=hid (HB.out.trans (hb1.mono hz))
   have c0:=hb1.cell (p:=⟨b,o+k*7,none⟩) hb
   have c1:=hb1.cell (p:=⟨b,o+k*7+1,none⟩) hb
   have c2:=hb1.cell (p:=⟨b,o+k*7+2,none⟩) hb
   have c3:=hb1.cell (p:=⟨b,o+k*7+3,none⟩) hb
   have c4:=hb1.cell (p:=⟨b,o+k*7+4,none⟩) hb
   have c5:=hb1.cell (p:=⟨b,o+k*7+5,none⟩) hb
   have c6:=hb1.cell (p:=⟨b,o+k*7+6,none⟩) hb
   rw[a0] at c0
   rw[a1] at c1
   rw[a2] at c2
   rw[a3] at c3
   rw[a4] at c4
   rw[a5] at c5
   rw[a6] at c6
   clear hb1 a0 a1 a2 a3 a4 a5 a6
   generalize her:Pl.lineErr (L.take k) L[k]=er at LN
   go_wp2_with fail
   refine LN.out.mono ?_;rintro e w2 ⟨rfl,hnext,hb2⟩
   have hP2:=(hb2.block _ (by omega)).trans HP1.out
   have hF2:=(hb2.block _ (by omega)).trans HF1.out
   have BF:=hid (HB1.out.trans (hb2.mono (by omega)))
   by_cases h0:er=0
   ·have hO':=hid (show Pl.Ok (L.take (k+1)) by rw[TK.out];exact HO.out.snoc (her.trans h0))
    have hW':=hid (show WorkAt 73 56 58 w2 (w.heap.size+2) (L.take (k+1)) by rw[TK.out];exact hnext h0)
    have HP2:=hid hP2
    have HF2:=hid hF2
    subst h0
    clear hnext hb2 hP2 hF2 her c0 c1 c2 c3 c4 c5 c6
    go_wp2
    go_roundw
    case rel=>exact⟨k+1,by omega,by go_num,hO'.out,hW'.out,HP2.out,HF2.out,BF.out⟩
    case measure=>simp[intOf];omega
   have hcn:(er != 0)=true:=by rw[AsV];exact h0
   have P:=hid (iK hlt HO.out her h0)
   obtain⟨⟨p0,p1,p2,p3,p4,p5⟩,⟨f0,f1,f2,f3,f4,f5⟩,gp⟩:=row6 hP2
   obtain⟨⟨q0,q1⟩,⟨e0,e1⟩,gq⟩:=row2f hF2
   clear hnext hb2 hP2 hF2 her c0 c1 c2 c3 c4 c5 c6
   go_wp2_with fail
   refine bodyPost_ret ?_ rfl (PlanGives.bad _ _ P.out rfl ?_)
   ·simp[results,Tryz.results10,go_sem, *]
   (repeat (with_reducible refine Below.setCell ?_ (by first|exact ArR _|exact Nat.le_succ _) _));exact BF.out
  obtain rfl:k=L.length:=by omega
  rw[AsT (ArR _)] at hO hW
  have HO:=hid hO
  have HW:=hid hW
  have HP:=hid hP
  have HFt:=hid hFt
  have HB:=hid hbel
  clear hO hW hP hFt hbel
  go_wp2_with fail
  go_loopw [7] (λv wr=>∃ k:Nat,k<=L.length/\v=.int .i64 k/\(∀ j<k,Pl.lackAt L j=0)/\WorkAt 73 56 58 wr (w.heap.size+2) L/\wr.heap[w.heap.size]?=some (.cells #[.int .i64 0,.int .i64 0,.int .i64 0,.int .i64 0,.slice none 0 0,.slice none 0 0] 25 (0,0))/\wr.heap[w.heap.size+1]?=some (.cells #[.int .i64 0,.int .i64 0] 42 (0,0))/\Below w.heap.size w wr) (λv _=>L.length-(intOf v).toNat)
  case atStart=>exact⟨0,AsD _,rfl,λj hj=>absurd hj (Nat.not_lt_zero j),HW.out,HP.out,HFt.out,HB.out⟩
  case round =>
   clear HW HP HFt HB
   obtain⟨k,hk,rfl,hj,hW,hP,hFt,hbel⟩:=hrel
   by_cases hlt:k<L.length
   ·obtain⟨b,o,rfl,hb,i7⟩:=(HI.out.below rfl hbel).at hlt
    obtain⟨a0,a1,a2,a3,a4,a5,a6⟩:=i7.cells
    clear i7
    have LK:=hid (xH (w.heap.size+2) L L[k] _ hW HO.out (List.getElem_mem hlt))
    have HJ:=hid hj
    have HW:=hid hW
    have HP:=hid hP
    have HFt:=hid hFt
    have HB:=hid hbel
    have hz:=hbel.size
    have hgz:=(ArL hP).1
    have hgf:=(ArL hFt).1
    clear hj hW hP hFt hbel
    unfold LackGives at LK
    generalize her:Pl.lackErr L L[k]=er at LK
    go_wp2_with fail
    refine LK.out.mono ?_;rintro e w2 ⟨rfl,hb2⟩
    have hP2:=(hb2.block _ hgz).trans HP.out
    have hF2:=(hb2.block _ hgf).trans HFt.out
    have BF:=hid (HB.out.trans (hb2.mono hz))
    by_cases h0:er=0
    ·have HJ':=hid (show ∀ j<k+1,Pl.lackAt L j=0 from λj hj=>by
      rcases Nat.lt_succ_iff_lt_or_eq.1 hj with h|rfl
      ·exact HJ.out j h
      rw[hJ hlt];exact her.trans h0)
     have HW':=hid (WorkL.below HW.out hb2)
     have HP2:=hid hP2
     have HF2:=hid hF2
     subst h0
     clear hb2 hP2 hF2 her a0 a1 a2 a3 a4 a5 a6
     go_wp2
     go_roundw
     case rel=>exact⟨k+1,by omega,by go_num,HJ'.out,HW'.out,HP2.out,HF2.out,BF.out⟩
     case measure=>simp[intOf];omega
    have hcn:(er != 0)=true:=by rw[AsV];exact h0
    have P:=hid (qK hlt HO.out her h0 HJ.out)
    obtain⟨⟨p0,p1,p2,p3,p4,p5⟩,⟨f0,f1,f2,f3,f4,f5⟩,gp⟩:=row6 hP2
    obtain⟨⟨q0,q1⟩,⟨e0,e1⟩,gq⟩:=row2f hF2
    clear hb2 hP2 hF2 her a0 a1 a2 a3 a4 a5 a6
    go_wp2_with fail
    refine bodyPost_ret ?_ rfl (PlanGives.bad _ _ P.out rfl ?_)
    ·simp[results,Tryz.results10,go_sem, *]
    (repeat (with_reducible refine Below.setCell ?_ (by first|exact ArR _|exact Nat.le_succ _) _));exact BF.out
   obtain rfl:k=L.length:=by omega
   have P:=hid (AgR HO.out hj)
   obtain⟨vS,vG,h1,h2,h3,h4⟩:=hW
   obtain⟨-,AS,cS,rfl,-,hRS⟩:=Lies.Row.of_own h2
   obtain⟨-,AG,cG,rfl,-,hRG⟩:=Lies.Row.of_own h3
   obtain⟨⟨n0,n1,n2,n3,n4,n5⟩,-,hfz,hgw⟩:=bA h1
   have SC:=hid (HSr.out L wr AS AG cS cG HO.out hRS hRG)
   have hz:=hbel.size
   have HB:=hid hbel
   have HP:=hid hP
   have HFt:=hid hFt
   clear h1 h2 h3 h4 hRS hRG hfz hj hP hFt hbel
   go_wp2_with fail
   refine SC.out.mono ?_;rintro e w2 ⟨A1,c1,A2,c2,l1,l2,rfl,r1,r2,n1',n2',hb2⟩
   obtain⟨⟨p0,p1,p2,p3,p4,p5⟩,⟨f0,f1,f2,f3,f4,f5⟩,gp⟩:=row6 (cQ HP.out hb2)
   obtain⟨⟨q0,q1⟩,⟨e0,e1⟩,gq⟩:=row2f (cQ HFt.out hb2)
   have BF:=hid (HB.out.trans (hb2.mono hz))
   have N1:=hid (show ∀ a,A1=some a->w.heap.size+1<a.block from λa ha=>AsE (by omega) (n1' a ha))
   have N2:=hid (show ∀ a,A2=some a->w.heap.size+1<a.block from λa ha=>AsE (by omega) (n2' a ha))
   have R1:=hid r1
   have R2:=hid r2
   clear r1 r2 hb2 n1' n2'
   go_wp2_with fail
   refine bodyPost_ret ?_ rfl (PlanGives.from (A:=A1) (A':=A2) P.out l1 l2 rfl ?_ ?_ ?_)
   ·simp[results,Tryz.results10,go_sem, *]
   ·(repeat (refine AdW ?_ _ _ (λa ha=>by have:=N1.out a ha;simp only;omega)));exact R1.out
   ·(repeat (refine AdW ?_ _ _ (λa ha=>by have:=N2.out a ha;simp only;omega)));exact R2.out
   (repeat (with_reducible refine Below.setCell ?_ (by first|exact ArR _|exact Nat.le_succ _) _));exact BF.out
def RowF {α:Type} (E:Lies α) (w:World) (b:Nat) (L:List α):Prop:=b<w.heap.size/\∀ (k:Nat) (y:α),L[k]?=some y->∀ (j:Nat) (v:Value),(E.enc y)[j]?=some v->w.cell? ⟨b,k*E.m+j,none⟩=some v/\w.frozen? ⟨b,k*E.m+j,none⟩=false
def But (B:Option Nat) (w w':World):Prop:=(∀ b,b<w.heap.size->B≠some b->w'.heap[b]?=w.heap[b]?)/\w.heap.size<=w'.heap.size/\w'.os=w.os/\w'.tape=w.tape/\w'.output=w.output
theorem But.below {b:Nat} {B:Option Nat} {w w1 w2:World} (h:Below b w w1) (h2:But B w1 w2) (hb:b<=w1.heap.size) (hB:∀ k,B=some k->b<=k):Below b w w2 :=
 h.trans ⟨h2.2.2.1,h2.2.2.2.1,h2.2.2.2.2,h2.2.1,λk hk=>h2.1 k (by omega) (λe=>by have:=hB k e;omega)⟩
theorem RowF.row {α:Type} {E:Lies α} {w:World} {b:Nat} {L:List α} (h:RowF E w b L):E.Row w (some ⟨b,0,none⟩) L:=.inr ⟨b,0,rfl,h.1,λk y hk j v hv=>by rw[Nat.zero_add];exact(h.2 k y hk j v hv).1⟩
theorem rK {w w':World} {b:Nat} (h:w'.heap[b]?=w.heap[b]?) (o:Nat):w'.cell? ⟨b,o,none⟩=w.cell? ⟨b,o,none⟩/\w'.frozen? ⟨b,o,none⟩=w.frozen? ⟨b,o,none⟩:=by
 constructor
 ·exact World.cell?_of_block (a:=⟨b,o,none⟩) h
 unfold World.frozen?
 simp only[h]
theorem RowF.same {α:Type} {E:Lies α} {w w':World} {b:Nat} {L:List α} (h:RowF E w b L) (hb:w'.heap[b]?=w.heap[b]?):RowF E w' b L:=by
 refine⟨?_,λk y hk j v hv=>?_⟩
 ·have h1:=h.1
  rw[Array.getElem?_eq_getElem h1] at hb
  exact(ArL hb).1
 rw[(rK hb _).1,(rK hb _).2];exact h.2 k y hk j v hv
theorem RowF.but {α:Type} {E:Lies α} {w w':World} {b:Nat} {B:Option Nat} {L:List α} (h:RowF E w b L) (hB:But B w w') (hn:B≠some b):RowF E w' b L:=h.same (hB.1 b h.1 hn)
theorem RowF.own {α:Type} {E:Lies α} {w:World} {base:Nat} {e:TypeId} {g cap n:Nat} {L:List α} (h:w.ownsRow base e E.m (.slice (some ⟨g,0,none⟩) n cap) n (E.all L)):RowF E w g L:=by
 refine⟨(h.lt g rfl).2,λk y hk j v hv=>⟨?_,h.frozenAt _⟩⟩
 exact Lies.own_on h hk j v hv
theorem RowF.set {α:Type} {E:Lies α} {w:World} {b:Nat} {L:List α} (h:RowF E w b L) {k j:Nat} {x y:α} (hx:L[k]?=some x) (hj:j<E.m) (u:Value) (hu:(E.enc x).set j u=E.enc y):RowF E (w.setCell ⟨b,k*E.m+j,none⟩ u) b (L.set k y):=by
 have hkl:=(ArM hx).1
 have hm:∀ (a c i l:Nat),i<E.m->l<E.m->a*E.m+i=c*E.m+l->a=c/\i=l:=λa c i l hi hl he=>by
  have h1:(a*E.m+i) / E.m=a:=by rw[Nat.mul_comm,Nat.mul_add_div E.pos,Nat.div_eq_of_lt hi,Nat.add_zero]
  have h2:(c*E.m+l) / E.m=c:=by rw[Nat.mul_comm,Nat.mul_add_div E.pos,Nat.div_eq_of_lt hl,Nat.add_zero]
  have:a=c:=by rw[<-h1,<-h2,he]
  subst this
  exact⟨rfl,by omega⟩
 refine⟨by simpa using h.1,λi z hi l v hv=>?_⟩
 have hll:l<E.m:=by
  have:=(ArM hv).1
  rwa [E.len] at this
 have hf:∀ o,(w.setCell ⟨b,k*E.m+j,none⟩ u).frozen? ⟨b,o,none⟩=w.frozen? ⟨b,o,none⟩:=λo=>by simp
 by_cases hik:i=k
 ·subst hik
  rw[List.getElem?_set_self hkl] at hi
  cases hi
  rw[<-hu] at hv
  by_cases hlj:l=j
  ·subst hlj
   rw[List.getElem?_set_self (by rw[E.len];exact hj)] at hv
   cases hv
   have h0:=h.2 i x hx l ((E.enc x)[l]'(by rw[E.len];exact hj)) (ArN _)
   refine⟨?_,by rw[hf];exact h0.2⟩
   exact World.cell?_setCell_same w _ u h0.1
  rw[List.getElem?_set_ne (Ne.symm hlj)] at hv
  have h0:=h.2 i x hx l v hv
  exact⟨(World.cell?_setCell_other w _ _ u (λhe=>by have:=congrArg Addr.off he;simp only at this;omega)).trans h0.1,by rw[hf];exact h0.2⟩
 rw[List.getElem?_set_ne (Ne.symm hik)] at hi
 have h0:=h.2 i z hi l v hv
 have hne:i*E.m+l≠k*E.m+j:=λhe=>hik (hm i k l j hll hj he).1
 exact⟨(World.cell?_setCell_other w _ _ u (λhe=>by have:=congrArg Addr.off he;simp only at this;omega)).trans h0.1,by rw[hf];exact h0.2⟩
section
open Go.Sort
end
def CloneGives {α:Type} (E:Lies α) (L:List α) (w:World) (e:Ending) (w':World):Prop :=
 ∃ A c,e=.returned (.slice A L.length c)/\L.length<=c/\(L=[]∨∃ b,A=some ⟨b,0,none⟩/\RowF E w' b L)/\(∀ a,A=some a->w.heap.size<=a.block)/\Below w.heap.size w w'
theorem CloneGives.of_own {α:Type} {E:Lies α} {L:List α} {w w':World} {e:TypeId} {v:Value} (h:w'.ownsRow w.heap.size e E.m v L.length (E.all L)) (hb:Below w.heap.size w w'):CloneGives E L w (.returned v) w':=by
 rcases h.2 with ⟨rfl,h0⟩|⟨g,cap,cur,rfl,hg,hh,hc,hr⟩
 ·have:L.length=0:=h0
  exact⟨none,0,by rw[this],by omega,.inl (AsR this),λa ha=>(by cases ha),hb⟩
 exact⟨_,cap,rfl,hc,.inr ⟨g,rfl,RowF.own h⟩,λa ha=>by cases ha;exact hg,hb⟩
open Go.RowKit
abbrev rL:Obj:=.cells #[.int .i64 0,.int .i64 0,.int .i64 0,.int .i64 0,.slice none 0 0,.slice none 0 0] 25
theorem oW {W:World} {B b:Nat} {v0 v1 v2 v3 v4 v5:Value} (h:b≠B) :
 ((((((W.setCell ⟨B,0,none⟩ v0).setCell ⟨B,1,none⟩ v1).setCell ⟨B,2,none⟩ v2).setCell ⟨B,3,none⟩ v3).setCell ⟨B,4,none⟩ v4).setCell ⟨B,5,none⟩ v5).heap[b]?=W.heap[b]?:=by
 rw[AsX _ _ _ _ (by simpa using h),AsX _ _ _ _ (by simpa using h),AsX _ _ _ _ (by simpa using h),AsX _ _ _ _ (by simpa using h),AsX _ _ _ _ (by simpa using h),AsX _ _ _ _ (by simpa using h)]
abbrev aR (p:Pl.Plan) (A:Option Addr) (c:Nat) (A':Option Addr) (c':Nat):Value:=.agg #[.int .i64 p.ov,.int .i64 p.ap,.int .i64 p.se,.int .i64 p.ho,.slice A p.secs.length c,.slice A' p.sigs.length c']
abbrev aD (p:Pl.Plan) (A:Option Addr) (c:Nat) (A':Option Addr) (c':Nat):Obj:=.cells #[.int .i64 p.ov,.int .i64 p.ap,.int .i64 p.se,.int .i64 p.ho,.slice A p.secs.length c,.slice A' p.sigs.length c'] 25
def PlanIn (w:World) (p:Pl.Plan) (A A':Option Addr):Prop:=aQ.Row w A p.secs/\bD.Row w A' p.sigs
theorem PlanIn.below {w w':World} {p:Pl.Plan} {A A':Option Addr} (h:PlanIn w p A A') (hb:Below w.heap.size w w'):PlanIn w' p A A':=⟨h.1.below rfl hb,h.2.below rfl hb⟩
theorem bQ {w:World} {A:Option Addr} {L:List Pl.Sec} (h:aQ.Row w A L) {i:Nat} {s:Pl.Sec} (hs:L[i]?=some s):∃ b o,A=some ⟨b,o,none⟩/\b<w.heap.size/\aQ.On w b (o+i*12) s:=by
 obtain⟨hi,rfl⟩:=ArM hs
 exact h.at hi
theorem fC {w:World} {base base':Nat} {e:TypeId} {size:Nat} {v:Value} {n:Nat} {xs:List Value} (h:w.ownsRow base e size v n xs) (hb:base'<=base):w.ownsRow base' e size v n xs:=by
 refine⟨h.1,?_⟩
 rcases h.2 with hn|⟨g,cap,cur,rfl,hbb,rest⟩
 ·exact .inl hn
 exact .inr ⟨g,cap,cur,rfl,ArS hb hbb,rest⟩
def ItSt (w wr:World) (O:Obj) (v:Value) (X:List It.Itm):Prop :=
 Below w.heap.size w wr/\wr.heap[w.heap.size]?=some O/\wr.ownsRow (w.heap.size+1) 67 7 v X.length (aY X)
theorem ItSt.start {w wr:World} {O:Obj} (h1:Below w.heap.size w wr) (h2:wr.heap[w.heap.size]?=some O):ItSt w wr O (.slice none 0 0) []:=⟨h1,h2,World.ownsRow_nil _ _ _ _⟩
theorem ItSt.lt {w wr:World} {O:Obj} {v:Value} {X:List It.Itm} (h:ItSt w wr O v X):w.heap.size<wr.heap.size:=(ArL h.2.1).1
theorem ItSt.below {w wr w2:World} {O:Obj} {v:Value} {X:List It.Itm} (h:ItSt w wr O v X) (hb:Below wr.heap.size wr w2):ItSt w w2 O v X :=
 ⟨h.1.trans (hb.mono h.1.size),(hb.block _ h.lt).trans h.2.1,aA h.2.2 hb⟩
theorem ItSt.grown {w wr w2:World} {O:Obj} {v v':Value} {X Y:List It.Itm} (h:ItSt w wr O v X) (ho:w2.ownsRow (w.heap.size+1) 67 7 v' (X.length+Y.length) (aY X++aY Y)) (hg:wr.grownBy w2 v.ownBlock):ItSt w w2 O v' (X++Y):=by
 have hl:=h.lt
 refine⟨h.1.grown hg (Nat.le_of_lt hl) (λk hk=>by have:=(h.2.2.lt k hk).1;omega),?_,?_⟩
 ·rw[hg.block _ hl (λe=>by have:=(h.2.2.lt _ e.symm).1;omega)];exact h.2.1
 rw[ArV,dG];exact ho
theorem ItSt.snoc {w wr w2:World} {O:Obj} {v v':Value} {X:List It.Itm} {y:It.Itm} (h:ItSt w wr O v X) (ho:w2.ownsRow (w.heap.size+1) 67 7 v' (X.length+1) (aY X++cells7 y)) (hg:wr.grownBy w2 v.ownBlock):ItSt w w2 O v' (X++[y]):=by
 refine h.grown (Y:=[y]) ?_ hg
 rw[iW];exact ho
theorem ItSt.ne {w wr:World} {O:Obj} {v:Value} {X:List It.Itm} (h:ItSt w wr O v X) {g:Nat} {cs:Array Value} {t:TypeId} (hg:wr.heap[g]?=some (.cells cs t (0,0))) (ht:t≠67):some g≠v.ownBlock:=λhe=>by
 rcases h.2.2.2 with ⟨rfl,-⟩|⟨b,cap,cur,rfl,-,hb,-⟩
 ·cases he
 have:g=b:=by simpa [Value.ownBlock] using he
 subst this
 rw[hg] at hb
 simp only[Option.some.injEq,Obj.cells.injEq] at hb
 exact ht hb.2.1
theorem ItSt.more {w wr w2:World} {O:Obj} {v v':Value} {X Y:List It.Itm} (h:ItSt w wr O v X) (ho:w2.ownsRow (w.heap.size+1) 67 7 v' (X.length+Y.length) (aY X++aY Y)) (hg:wr.grownBy w2 v.ownBlock):ItSt w w2 O v' (X++Y):=h.grown ho hg
theorem nL (a:List UInt8):(It.tip a).n.length<=8:=by
 unfold It.tip
 split
 ·rename_i h
  unfold It.tipOk at h
  simp only[AsF] at h
  exact(nG h.2).2
 simp[It.Tp.zero]
theorem AbH {k:Int} {T:List (List UInt8)} {y:It.Itm} (h:It.parseK k T=some y):ItemLe 8 y:=by
 unfold It.parseK at h
 split at h
 ·split at h
  ·split at h
   ·rename_i d hp
    cases h
    have:=parseN_le hp
    have:=nE k
    exact⟨by simp,by show Fig.parseN d (It.most k)<=_;omega,by simp[It.Tp.zero],by simp[It.Tp.zero]⟩
   cases h
  cases h
 split at h
 ·split at h
  ·split at h
   ·rename_i m d hp
    cases h
    simp only[AsF] at hp
    exact⟨(nG hp.1.1).2,parseN_le hp.1.2,by simp[It.Tp.zero],by simp[It.Tp.zero]⟩
   cases h
  cases h
 split at h
 ·split at h
  ·split at h
   ·rename_i a b hp
    cases h
    exact⟨by simp,by simp,nL a,nL b⟩
   cases h
  cases h
 split at h
 ·split at h
  ·split at h
   ·rename_i a hp
    cases h
    exact⟨by simp,by simp,nL a,by simp[It.Tp.zero]⟩
   cases h
  cases h
 split at h
 ·split at h
  ·split at h
   ·rename_i m a hp
    cases h
    simp only[AsF] at hp
    exact⟨(nG hp.1).2,by simp,nL a,by simp[It.Tp.zero]⟩
   cases h
  cases h
 cases h
theorem AgS {l:List UInt8} {y:It.Itm} (h:It.parse l=some y):ItemLe 8 y:=by
 unfold It.parse at h
 split at h
 ·cases hW:Ln.words l with
  | nil=>rw[hW] at h;cases h
  | cons x T=>rw[hW] at h;exact AbH h
 cases h
theorem AgT {y:It.Itm} (h:It.right y=true):ItemLe 8 y/\0<=y.n:=by
 rw[It.right,AsF,AsC,AsC] at h
 exact⟨AgS h.2,h.1⟩
theorem uE {l:List UInt8} {y:It.Itm} (h:It.parse l=some y):It.right y=true:=by
 obtain⟨h1,h2⟩:=It.print_parse AkK l y h
 rw[It.right,AsF,AsC,AsC,h1]
 exact⟨h2,h⟩
theorem ItemLe.fits {y:It.Itm} (h:ItemLe 8 y):AdX y:=by
 obtain⟨h1,h2,h3,h4⟩:=h
 exact⟨by omega,by omega,by omega,by omega⟩
theorem xK (l:List UInt8):∀ y∈(Sh.parse l).1,It.right y=true:=by
 cases hb:Sh.bad (Ln.whole l) (Ln.split l) with
 | some k=>rw[Sh.parse_some hb];intro y hy;cases hy
 | none =>
   rw[Sh.parse_none hb]
   intro y hy
   obtain⟨x,_,h⟩:=List.mem_filterMap.1 hy
   exact uE h
theorem rM (l:List UInt8):(Sh.parse l).1.length<=l.length+1:=by
 cases hb:Sh.bad (Ln.whole l) (Ln.split l) with
 | some k=>rw[Sh.parse_some hb];simp
 | none =>
   rw[Sh.parse_none hb]
   exact ArS (Sh.items_le _) (Sh.split_le l).2
theorem oX (l:List UInt8):Sh.parse l=((Sh.parse l).1,0)∨∃ k,Sh.parse l=([],k+1):=by
 cases hb:Sh.bad (Ln.whole l) (Ln.split l) with
 | some k=>exact .inr ⟨k,Sh.parse_some hb⟩
 | none=>left;rw[Sh.parse_none hb]
namespace Pl
def cL (l:List UInt8):Plan × Int × Nat:=if (Sh.parse l).2=0 then build (Sh.parse l).1 else(Plan.zero,2,(Sh.parse l).2)
end Pl
theorem xL {α:Type} {E:Lies α} {w w':World} {A:Option Addr} {L:List α} (h:E.Row w A L) (hsz:w.heap.size<=w'.heap.size) (hk:L≠[]->∀ b o,A=some ⟨b,o,none⟩->w'.heap[b]?=w.heap[b]?):E.Row w' A L:=by
 by_cases h0:L=[]
 ·exact .inl h0
 rcases h with h|⟨b,o,hA,hlt,h⟩
 ·exact .inl h
 exact .inr ⟨b,o,hA,by omega,λk y hy j v hv=>by rw[World.cell?_of_block (hk h0 b o hA)];exact h k y hy j v hv⟩
theorem AdY {α:Type} {E:Lies α} (hE:∀ y,∃ s,(E.enc y)[0]?=some (.string s)) {w:World} {A:Option Addr} {L:List α} (h:E.Row w A L) (h0:L≠[]) {b o:Nat} (hA:A=some ⟨b,o,none⟩) {B:Nat} {cs:Array Value} {t:TypeId} (hB:w.heap[B]?=some (.cells cs t (0,0))) (hs:∀ (j:Nat) (s:ByteArray),cs[j]? ≠ some (.string s)):b≠B:=λhe=>by
 subst he
 rcases h with h|⟨b',o',hA',hlt,h⟩
 ·exact h0 h
 rw[hA] at hA'
 cases hA'
 cases L with
 | nil=>exact h0 rfl
 | cons y L =>
   obtain⟨s,hs'⟩:=hE y
   have:=h 0 y rfl 0 _ hs'
   rw[AsY _ _ _ _ _ _ hB] at this
   exact hs _ s this
theorem AkP (y:Pl.Sec):∃ s,(aQ.enc y)[0]?=some (.string s):=⟨_,rfl⟩
theorem AkQ (y:Pl.Sig):∃ s,(bD.enc y)[0]?=some (.string s):=⟨_,rfl⟩
theorem xM {a b c d:Int} {A A':Option Addr} {n n' m m':Nat} (j:Nat) (s:ByteArray):(#[Value.int .i64 a,.int .i64 b,.int .i64 c,.int .i64 d,.slice A n m,.slice A' n' m'])[j]? ≠ some (.string s):=by
 rcases j with _|_|_|_|_|_|j <;> simp
abbrev eK:Obj:=.cells #[.int .i64 0,.int .i64 0] 42
def AkR (L:List It.Itm) (w:World) (e:Ending) (w':World):Prop :=
 ∃ A c,L.length<=c/\e=.returned (.tuple #[.slice A L.length c,.agg #[.int .i64 0,.int .i64 0]])/\Its w' A L/\Below w.heap.size w w'
def AkS (k:Nat) (w:World) (e:Ending) (w':World):Prop :=
 ∃ A c,e=.returned (.tuple #[.slice A 0 c,.agg #[.int .i64 2,.int .i64 ((k:Int)+1)]])/\Below w.heap.size w w'
theorem rN {s:ByteArray} {L:List It.Itm} (h:Sh.parse s.data.toList=(L,0)) (hs:s.size<=1000000) (w:World):Calls Tryz.prog 9 #[.string s] w (AkR L w) :=
 (lX s w hs).mono λe w' g=>by
  rw[h] at g
  exact g
theorem AgU {s:ByteArray} {k:Nat} (h:Sh.parse s.data.toList=([],k+1)) (hs:s.size<=1000000) (w:World):Calls Tryz.prog 9 #[.string s] w (AkS k w) :=
 (lX s w hs).mono λe w' g=>by
  rw[h] at g
  obtain⟨A,c,_,he,_,hb⟩:=g
  exact⟨A,c,by rw[he,AaT,ArY (by simp)];rfl,hb⟩
open Go.RowKit
abbrev ArH (x:Pl.En):Value:=.agg #[.int .i64 x.goes,.int .i64 x.at_,.int .i64 x.sig]
theorem AbI {l:List UInt8} {p:Pl.Plan} (h:Pl.cL l=(p,0,0)):Pl.Fit p/\∃ L,Pl.Ok L/\Pl.Shut L/\p=Pl.fin L:=by
 unfold Pl.cL at h
 split at h
 ·obtain⟨h1,h2,h3⟩:=Pl.build_zero (L:=(Sh.parse l).1) (by rw[h])
  rw[h3] at h
  obtain rfl:Pl.fin (Sh.parse l).1=p:=congrArg Prod.fst h
  exact⟨Pl.fit_fin h1 h2,_,h1,h2,rfl⟩
 have:=congrArg (λx=>x.2.1) h
 simp at this
def i64 (n:Int):Value:=.int .i64 n
def rk (N:List Pl.Nm) (i:Nat):List Int:=(Pl.ranks N).take i++List.replicate (N.length-i) 0
theorem AkT {N:List Pl.Nm} {i:Nat} (h:i<=N.length):(rk N i).length=N.length:=by simp[rk,Pl.ranks_len];omega
theorem AdZ (N:List Pl.Nm):rk N 0=List.replicate N.length 0:=by simp[rk]
theorem AkU (N:List Pl.Nm):rk N N.length=Pl.ranks N:=by rw[rk,AsT (by rw[Pl.ranks_len];exact ArR _)];simp
theorem AkV {N:List Pl.Nm} {i:Nat} (h:i<N.length):(rk N i).set i (Pl.rank N N[i])=rk N (i+1):=by
 have e:N.length-i=(N.length-(i+1))+1:=by omega
 have hl:((Pl.ranks N).take i).length=i:=by simp[Pl.ranks_len];omega
 rw[rk,rk,e,List.replicate_succ,AsK (by rw[Pl.ranks_len];exact h)]
 rw[List.set_append_right _ _ (by omega),hl,Nat.sub_self,ArP]
 simp[Pl.ranks]
theorem rO {N:List Pl.Nm} {i:Nat} (h:i<N.length):(rk N i).set i 0=rk N i:=by
 have e:N.length-i=(N.length-(i+1))+1:=by omega
 have hl:((Pl.ranks N).take i).length=i:=by simp[Pl.ranks_len];omega
 rw[rk,e,List.replicate_succ,List.set_append_right _ _ (by omega),hl,Nat.sub_self,ArP]
theorem rP {N:List Pl.Nm} {k:Nat} (h:k<N.length) (nm:Pl.Nm):Pl.rank (N.take (k+1)) nm=Pl.rank (N.take k) nm+if N[k]<nm then 1 else 0:=by
 unfold Pl.rank
 rw[AsK h,List.filter_append,ArV,List.filter_cons]
 by_cases hc:N[k]<nm
 ·rw[ArZ hc,ArZ (by simpa using hc)];simp
 rw[ArY hc,ArY (by simpa using hc)];simp
def nM:Pl.Sec:=⟨[],false,0,oP,oP,oP⟩
theorem AeA (N:List Pl.Nm) (nm:Pl.Nm):0<=Pl.rank N nm/\Pl.rank N nm<=N.length:=by
 unfold Pl.rank
 have:=List.length_filter_le (λa=>decide (a<nm)) N
 omega
theorem fD (M:List It.Itm):(Pl.wS M).map (·.name)=Pl.nmS M:=by simp[Pl.wS,Pl.nmS,Pl.secG]
theorem fE (M:List It.Itm):(Pl.wG M).map (·.name)=Pl.nmG M:=by simp[Pl.wG,Pl.nmG,Pl.sigW]
def IntRow (t:TypeId) (w:World) (g:Nat) (X:List Int):Prop:=w.heap[g]?=some (.cells (X.map i64).toArray t (0,0))
theorem IntRow.cell {t:TypeId} {w:World} {g:Nat} {X:List Int} (h:IntRow t w g X) {j:Nat} {v:Int} (hj:X[j]?=some v):w.cell? ⟨g,j,none⟩=some (.int .i64 v):=by
 rw[AsY w g j _ t _ h];simp[hj,i64]
theorem IntRow.frozen {t:TypeId} {w:World} {g:Nat} {X:List Int} (h:IntRow t w g X) (j:Nat):w.frozen? ⟨g,j,none⟩=false:=AsZ w g j _ t h
theorem IntRow.set {t:TypeId} {w:World} {g:Nat} {X:List Int} (h:IntRow t w g X) (j:Nat) (v:Int):IntRow t (w.setCell ⟨g,j,none⟩ (.int .i64 v)) g (X.set j v):=by
 have:=AtA w g j _ t (.int .i64 v) h
 unfold IntRow
 rw[this]
 simp[i64,List.map_set]
theorem IntRow.far {t:TypeId} {w:World} {g:Nat} {X:List Int} (h:IntRow t w g X) (p:Addr) (v:Value) (hp:g≠p.block):IntRow t (w.setCell p v) g X:=by
 unfold IntRow;rw[AsX _ p g v hp];exact h
theorem IntRow.made (t:TypeId) (w:World) (n:Nat):IntRow t (w.alloc (.cells (madeCells #[.int .i64 0] n) t)) w.heap.size (List.replicate n 0):=by
 unfold IntRow
 rw[AsW]
 congr 2
 apply Array.toList_inj.1
 rw[toList_madeCells_one]
 simp[i64]
def F3 (w wr:World) (a b c:Obj):Prop:=wr.heap[w.heap.size]?=some a/\wr.heap[w.heap.size+1]?=some b/\wr.heap[w.heap.size+2]?=some c/\Below w.heap.size w wr
theorem F3.set {w wr:World} {a b c:Obj} (h:F3 w wr a b c) (p:Addr) (v:Value) (hp:w.heap.size+2<p.block):F3 w (wr.setCell p v) a b c :=
 ⟨by rw[AsX _ p _ v (by omega)];exact h.1,by rw[AsX _ p _ v (by omega)];exact h.2.1,by rw[AsX _ p _ v (by omega)];exact h.2.2.1,h.2.2.2.setCell (by omega) _⟩
theorem F3.alloc {w wr:World} {a b c:Obj} (h:F3 w wr a b c) (o:Obj):F3 w (wr.alloc o) a b c:=by
 have g:=(ArL h.2.2.1).1
 exact⟨by rw[heap_alloc_old _ _ (by omega)];exact h.1,by rw[heap_alloc_old _ _ (by omega)];exact h.2.1,by rw[heap_alloc_old _ _ g];exact h.2.2.1,h.2.2.2.alloc (by omega) _⟩
theorem F3.drewN {w wr:World} {a b c:Obj} (h:F3 w wr a b c) (n:Nat):F3 w (wr.drewN n) a b c:=⟨h.1,h.2.1,h.2.2.1,aH h.2.2.2 n⟩
theorem IntRow.drewN {t:TypeId} {w:World} {g:Nat} {X:List Int} (h:IntRow t w g X) (n:Nat):IntRow t (w.drewN n) g X:=h
theorem IntRow.alloc {t:TypeId} {w:World} {g:Nat} {X:List Int} (h:IntRow t w g X) (o:Obj):IntRow t (w.alloc o) g X:=by
 unfold IntRow;rw[heap_alloc_old _ _ (ArL h).1];exact h
def fF (L:List It.Itm) (vS vG:Value):Array Value:=#[.int .i64 (Pl.num L 1),.int .i64 (Pl.num L 2),.int .i64 (Pl.num L 3),.int .i64 (Pl.num L 4),vS,vG]
def SecLoop (ti tS tP:TypeId) (w wr:World) (oa ob:Obj) (L:List It.Itm) (i:Nat):Prop :=
 F3 w wr oa ob (.cells (fF L (.slice (some ⟨w.heap.size+5,0,none⟩) (Pl.wS L).length (Pl.wS L).length) (.slice none 0 0)) tP)/\IntRow ti wr (w.heap.size+1+1+1) (Pl.ranks (Pl.nmS L))/\IntRow ti wr (w.heap.size+4) (Pl.ranks (Pl.nmG L)) /\
  ∃ X:List Pl.Sec,X.length=(Pl.wS L).length/\wr.heap[w.heap.size+5]?=some (.cells (aQ.all X).toArray tS (0,0)) /\
    ∀ (j:Nat) (s:Pl.Sec),j<i->(Pl.wS L)[j]?=some s->X[(Pl.rank (Pl.nmS L) s.name).toNat]?=some (Pl.renSec (Pl.ranks (Pl.nmS L)) (Pl.ranks (Pl.nmG L)) s)
theorem SecLoop.start {ti tP:TypeId} {w wr:World} {oa ob oc:Obj} {L:List It.Itm} (hF:F3 w wr oa ob oc) (hr:wr.heap[w.heap.size+2]?=some (.cells (fF L (.slice none 0 0) (.slice none 0 0)) tP (0,0))) (hz:wr.heap.size=w.heap.size+5)
 (h0:IntRow ti wr (w.heap.size+1+1+1) (Pl.ranks (Pl.nmS L))) (h1:IntRow ti wr (w.heap.size+4) (Pl.ranks (Pl.nmG L))) (tS:TypeId) :
 SecLoop ti tS tP w ((wr.setCell ⟨w.heap.size+1+1,4,none⟩ (.slice (some ⟨w.heap.size+5,0,none⟩) (Pl.wS L).length (Pl.wS L).length)).alloc (.cells (aQ.all (List.replicate (Pl.wS L).length nM)).toArray tS)) oa ob L 0:=by
 have hz':(wr.setCell ⟨w.heap.size+1+1,4,none⟩ (.slice (some ⟨w.heap.size+5,0,none⟩) (Pl.wS L).length (Pl.wS L).length)).heap.size=w.heap.size+5:=by simpa using hz
 have hA:F3 w (wr.setCell ⟨w.heap.size+1+1,4,none⟩ (.slice (some ⟨w.heap.size+5,0,none⟩) (Pl.wS L).length (Pl.wS L).length)) oa ob (.cells (fF L (.slice (some ⟨w.heap.size+5,0,none⟩) (Pl.wS L).length (Pl.wS L).length) (.slice none 0 0)) tP) :=
  ⟨by rw[AsX _ _ _ _ (by simp only;omega)];exact hF.1,by rw[AsX _ _ _ _ (by simp only;omega)];exact hF.2.1,AtA _ _ _ _ _ _ hr,hF.2.2.2.setCell (by simp only;omega) _⟩
 refine⟨hA.alloc _,(h0.far _ _ (by simp only;omega)).alloc _,(h1.far _ _ (by simp only;omega)).alloc _,List.replicate (Pl.wS L).length nM,by simp,?_,λj s hj=>absurd hj (Nat.not_lt_zero j)⟩
 have:=AsW (wr.setCell ⟨w.heap.size+1+1,4,none⟩ (.slice (some ⟨w.heap.size+5,0,none⟩) (Pl.wS L).length (Pl.wS L).length)) (.cells (aQ.all (List.replicate (Pl.wS L).length nM)).toArray tS)
 rw[hz'] at this;exact this
theorem SecLoop.far {ti tS tP:TypeId} {w wr:World} {oa ob:Obj} {L:List It.Itm} {i:Nat} (h:SecLoop ti tS tP w wr oa ob L i) (p:Addr) (v:Value) (hp:w.heap.size+5<p.block):SecLoop ti tS tP w (wr.setCell p v) oa ob L i:=by
 obtain⟨h1,h2,h3,X,h4,h5,h6⟩:=h
 exact⟨h1.set _ _ (by omega),h2.far _ _ (by omega),h3.far _ _ (by omega),X,h4,by rw[AsX _ _ _ _ (by omega)];exact h5,h6⟩
theorem SecLoop.alloc {ti tS tP:TypeId} {w wr:World} {oa ob:Obj} {L:List It.Itm} {i:Nat} (h:SecLoop ti tS tP w wr oa ob L i) (o:Obj):SecLoop ti tS tP w (wr.alloc o) oa ob L i:=by
 obtain⟨h1,h2,h3,X,h4,h5,h6⟩:=h
 exact⟨h1.alloc _,h2.alloc _,h3.alloc _,X,h4,by rw[heap_alloc_old _ _ (ArL h5).1];exact h5,h6⟩
theorem SecLoop.size {ti tS tP:TypeId} {w wr:World} {oa ob:Obj} {L:List It.Itm} {i:Nat} (h:SecLoop ti tS tP w wr oa ob L i):w.heap.size+5<wr.heap.size:=by
 obtain⟨h1,h2,h3,X,h4,h5,h6⟩:=h
 exact(ArL h5).1
theorem SecLoop.drew {ti tS tP:TypeId} {w wr:World} {oa ob:Obj} {L:List It.Itm} {i:Nat} (h:SecLoop ti tS tP w wr oa ob L i):SecLoop ti tS tP w wr.drew oa ob L i:=by
 obtain⟨h1,h2,h3,X,h4,h5,h6⟩:=h
 exact⟨⟨h1.1,h1.2.1,h1.2.2.1,h1.2.2.2.drew⟩,h2,h3,X,h4,h5,h6⟩
theorem SecLoop.next {ti tS tP:TypeId} {w wr:World} {oa ob:Obj} {L:List It.Itm} {i:Nat} {s t:Pl.Sec} {r:Nat} (hM:Pl.Ok L) (hs:(Pl.wS L)[i]?=some s) (hr:Pl.rank (Pl.nmS L) s.name=r) (h:SecLoop ti tS tP w wr oa ob L i)
 (ht:t=Pl.renSec (Pl.ranks (Pl.nmS L)) (Pl.ranks (Pl.nmG L)) s):SecLoop ti tS tP w (cH wr (w.heap.size+5) (r*12) (aI t)) oa ob L (i+1):=by
 obtain⟨h1,h2,h3,X,h4,h5,h6⟩:=h
 have hlt:∀ b∈Pl.wS L,(Pl.rank (Pl.nmS L) b.name).toNat<(Pl.wS L).length:=λb hb=>by
  obtain⟨j,hj,rfl⟩:=List.getElem_of_mem hb
  have:=Pl.rank_lt (Pl.wS_name_mem (ArN hj))
  have:=Pl.rank_nonneg (Pl.nmS L) (Pl.wS L)[j].name
  have:=Pl.nmS_len L
  omega
 have hrl:r<X.length:=by
  have:=hlt s (ArX hs)
  rw[hr,AsP] at this
  omega
 have o:=λ(b:Nat) (hb:b≠w.heap.size+5)=>eI (w.heap.size+5) b hb (aI t) (r*12) wr
 have hn:((Pl.wS L).map Pl.Sec.name).Nodup:=by rw[fD];exact hM.names
 refine⟨⟨(o _ (by omega)).trans h1.1,(o _ (by omega)).trans h1.2.1,(o _ (by omega)).trans h1.2.2.1,eJ (by omega) _ _ _ h1.2.2.2⟩,(o _ (by omega)).trans h2,(o _ (by omega)).trans h3,X.set r t,by rw[List.length_set];exact h4,iJ aQ h5 hrl t,?_⟩
 have:=Pl.told_more (L:=Pl.wS L) (n:=(Pl.wS L).length) (λb=>(Pl.rank (Pl.nmS L) b.name).toNat) (Pl.renSec (Pl.ranks (Pl.nmS L)) (Pl.ranks (Pl.nmG L))) (X:=X) hs hlt h4 (λj b hj hb=>?_) h6
 ·simp only[hr,AsP] at this
  rw[ht];exact this
 have:=Pl.names_apart Pl.Sec.name hn hs hb hj
 rw[fD] at this
 have:=Pl.rank_nonneg (Pl.nmS L) s.name
 have:=Pl.rank_nonneg (Pl.nmS L) b.name
 omega
def nN:Pl.Sig:=⟨[],0,0⟩
def SigLoop (ti tS tG tP:TypeId) (w wr:World) (oa ob:Obj) (g:Nat) (L:List It.Itm) (i:Nat):Prop :=
 w.heap.size+5<g/\F3 w wr oa ob (.cells (fF L (.slice (some ⟨w.heap.size+5,0,none⟩) (Pl.wS L).length (Pl.wS L).length) (.slice (some ⟨g,0,none⟩) (Pl.wG L).length (Pl.wG L).length)) tP)/\IntRow ti wr (w.heap.size+1+1+1) (Pl.ranks (Pl.nmS L))/\IntRow ti wr (w.heap.size+4) (Pl.ranks (Pl.nmG L)) /\
  wr.heap[w.heap.size+5]?=some (.cells (aQ.all (Pl.fin L).secs).toArray tS (0,0)) /\
  ∃ X:List Pl.Sig,X.length=(Pl.wG L).length/\wr.heap[g]?=some (.cells (bD.all X).toArray tG (0,0)) /\
    ∀ (j:Nat) (s:Pl.Sig),j<i->(Pl.wG L)[j]?=some s->X[(Pl.rank (Pl.nmG L) s.name).toNat]?=some (Pl.renSig (Pl.ranks (Pl.nmS L)) s)
theorem SigLoop.start {ti tS tP:TypeId} {w wr:World} {oa ob:Obj} {L:List It.Itm} (hF:F3 w wr oa ob (.cells (fF L (.slice (some ⟨w.heap.size+5,0,none⟩) (Pl.wS L).length (Pl.wS L).length) (.slice none 0 0)) tP))
 (h0:IntRow ti wr (w.heap.size+1+1+1) (Pl.ranks (Pl.nmS L))) (h1:IntRow ti wr (w.heap.size+4) (Pl.ranks (Pl.nmG L))) (hS:wr.heap[w.heap.size+5]?=some (.cells (aQ.all (Pl.fin L).secs).toArray tS (0,0))) (tG:TypeId) :
 SigLoop ti tS tG tP w ((wr.setCell ⟨w.heap.size+1+1,5,none⟩ (.slice (some ⟨wr.heap.size,0,none⟩) (Pl.wG L).length (Pl.wG L).length)).alloc (.cells (bD.all (List.replicate (Pl.wG L).length nN)).toArray tG)) oa ob wr.heap.size L 0:=by
 have hz':(wr.setCell ⟨w.heap.size+1+1,5,none⟩ (.slice (some ⟨wr.heap.size,0,none⟩) (Pl.wG L).length (Pl.wG L).length)).heap.size=wr.heap.size:=by simp
 have hg5:=(ArL hS).1
 have hA:F3 w (wr.setCell ⟨w.heap.size+1+1,5,none⟩ (.slice (some ⟨wr.heap.size,0,none⟩) (Pl.wG L).length (Pl.wG L).length)) oa ob (.cells (fF L (.slice (some ⟨w.heap.size+5,0,none⟩) (Pl.wS L).length (Pl.wS L).length) (.slice (some ⟨wr.heap.size,0,none⟩) (Pl.wG L).length (Pl.wG L).length)) tP) :=
  ⟨by rw[AsX _ _ _ _ (by simp only;omega)];exact hF.1,by rw[AsX _ _ _ _ (by simp only;omega)];exact hF.2.1,AtA _ _ _ _ _ _ hF.2.2.1,hF.2.2.2.setCell (by simp only;omega) _⟩
 refine⟨hg5,hA.alloc _,(h0.far _ _ (by simp only;omega)).alloc _,(h1.far _ _ (by simp only;omega)).alloc _,?_,List.replicate (Pl.wG L).length nN,by simp,?_,λj s hj=>absurd hj (Nat.not_lt_zero j)⟩
 ·rw[heap_alloc_old _ _ (by simpa using hg5),AsX _ _ _ _ (by simp only;omega)];exact hS
 have:=AsW (wr.setCell ⟨w.heap.size+1+1,5,none⟩ (.slice (some ⟨wr.heap.size,0,none⟩) (Pl.wG L).length (Pl.wG L).length)) (.cells (bD.all (List.replicate (Pl.wG L).length nN)).toArray tG)
 rw[hz'] at this;exact this
theorem SigLoop.far {ti tS tG tP:TypeId} {w wr:World} {oa ob:Obj} {g:Nat} {L:List It.Itm} {i:Nat} (h:SigLoop ti tS tG tP w wr oa ob g L i) (p:Addr) (v:Value) (hp:g<p.block):SigLoop ti tS tG tP w (wr.setCell p v) oa ob g L i:=by
 obtain⟨h0,h1,h2,h3,hS,X,h4,h5,h6⟩:=h
 exact⟨h0,h1.set _ _ (by omega),h2.far _ _ (by omega),h3.far _ _ (by omega),by rw[AsX _ _ _ _ (by omega)];exact hS,X,h4,by rw[AsX _ _ _ _ (by omega)];exact h5,h6⟩
theorem SigLoop.alloc {ti tS tG tP:TypeId} {w wr:World} {oa ob:Obj} {g:Nat} {L:List It.Itm} {i:Nat} (h:SigLoop ti tS tG tP w wr oa ob g L i) (o:Obj):SigLoop ti tS tG tP w (wr.alloc o) oa ob g L i:=by
 obtain⟨h0,h1,h2,h3,hS,X,h4,h5,h6⟩:=h
 exact⟨h0,h1.alloc _,h2.alloc _,h3.alloc _,by rw[heap_alloc_old _ _ (ArL hS).1];exact hS,X,h4,by rw[heap_alloc_old _ _ (ArL h5).1];exact h5,h6⟩
theorem SigLoop.drew {ti tS tG tP:TypeId} {w wr:World} {oa ob:Obj} {g:Nat} {L:List It.Itm} {i:Nat} (h:SigLoop ti tS tG tP w wr oa ob g L i):SigLoop ti tS tG tP w wr.drew oa ob g L i:=by
 obtain⟨h0,h1,h2,h3,hS,X,h4,h5,h6⟩:=h
 exact⟨h0,⟨h1.1,h1.2.1,h1.2.2.1,h1.2.2.2.drew⟩,h2,h3,hS,X,h4,h5,h6⟩
theorem SigLoop.next {ti tS tG tP:TypeId} {w wr:World} {oa ob:Obj} {g:Nat} {L:List It.Itm} {i:Nat} {s t:Pl.Sig} {r:Nat} (hM:Pl.Ok L) (hs:(Pl.wG L)[i]?=some s) (hr:Pl.rank (Pl.nmG L) s.name=r) (h:SigLoop ti tS tG tP w wr oa ob g L i)
 (ht:t=Pl.renSig (Pl.ranks (Pl.nmS L)) s):SigLoop ti tS tG tP w (cH wr g (r*3) (jT t)) oa ob g L (i+1):=by
 obtain⟨h0,h1,h2,h3,hS,X,h4,h5,h6⟩:=h
 have hlt:∀ b∈Pl.wG L,(Pl.rank (Pl.nmG L) b.name).toNat<(Pl.wG L).length:=λb hb=>by
  obtain⟨j,hj,rfl⟩:=List.getElem_of_mem hb
  have:=Pl.rank_lt (Pl.wG_name_mem (ArN hj))
  have:=Pl.rank_nonneg (Pl.nmG L) (Pl.wG L)[j].name
  have:=Pl.nmG_len L
  omega
 have hrl:r<X.length:=by
  have:=hlt s (ArX hs)
  rw[hr,AsP] at this
  omega
 have o:=λ(b:Nat) (hb:b≠g)=>eI g b hb (jT t) (r*3) wr
 have hn:((Pl.wG L).map Pl.Sig.name).Nodup:=by rw[fE];exact hM.gnames
 refine⟨h0,⟨(o _ (by omega)).trans h1.1,(o _ (by omega)).trans h1.2.1,(o _ (by omega)).trans h1.2.2.1,eJ (by omega) _ _ _ h1.2.2.2⟩,(o _ (by omega)).trans h2,(o _ (by omega)).trans h3,(o _ (by omega)).trans hS,X.set r t,by rw[List.length_set];exact h4,iJ bD h5 hrl t,?_⟩
 have:=Pl.told_more (L:=Pl.wG L) (n:=(Pl.wG L).length) (λb=>(Pl.rank (Pl.nmG L) b.name).toNat) (Pl.renSig (Pl.ranks (Pl.nmS L))) (X:=X) hs hlt h4 (λj b hj hb=>?_) h6
 ·simp only[hr,AsP] at this
  rw[ht];exact this
 have:=Pl.names_apart Pl.Sig.name hn hs hb hj
 rw[fE] at this
 have:=Pl.rank_nonneg (Pl.nmG L) s.name
 have:=Pl.rank_nonneg (Pl.nmG L) b.name
 omega
theorem PlanAgg.of {L:List It.Itm} {w w':World} {e:Ending} {g g2:Nat} {tS tG:TypeId} (h1:w'.heap[g]?=some (.cells (aQ.all (Pl.fin L).secs).toArray tS (0,0))) (h2:w'.heap[g2]?=some (.cells (bD.all (Pl.fin L).sigs).toArray tG (0,0))) (hg:w.heap.size<=g) (hg2:w.heap.size<=g2) (hb:Below w.heap.size w w')
 (he:e=.returned (.agg #[.int .i64 (Pl.num L 1),.int .i64 (Pl.num L 2),.int .i64 (Pl.num L 3),.int .i64 (Pl.num L 4),.slice (some ⟨g,0,none⟩) (Pl.wS L).length (Pl.wS L).length,.slice (some ⟨g2,0,none⟩) (Pl.wG L).length (Pl.wG L).length])):PlanAgg (Pl.fin L) w e w' :=
 ⟨some ⟨g,0,none⟩,(Pl.wS L).length,some ⟨g2,0,none⟩,(Pl.wG L).length,by rw[Pl.fin_secs_len];exact ArR _,by rw[Pl.fin_sigs_len];exact ArR _,by rw[he,Pl.fin_secs_len,Pl.fin_sigs_len];rfl,jW h1,jW h2,λa ha=>by cases ha;exact hg,λa ha=>by cases ha;exact hg2,hb⟩
theorem fQ:xI:=by
 intro L w A A' c c' hO hS hG
 have HO:=hid hO
 have HS:=hid hS
 have HG:=hid hG
 have lS:(Pl.wS L).length<=24:=by rw[Pl.wS_len];exact hO.few
 have lG:(Pl.wG L).length<=12:=by rw[Pl.wG_len];exact hO.gfew
 have NL:=hid (show (Pl.nmS L).length=(Pl.wS L).length by rw[<-fD,AsH])
 have hmk:=run_make_row' (P:=Tryz.prog) 90 3 (.int .i64 0) 8 Tryz.underlying90 (by kernel_rfl) rfl .i64 .i64 (Pl.wS L).length (by omega) (by omega)
 clear hO hS hG
 generalize hoa:(Obj.cells #[.int .i64 (Pl.num L 1),.int .i64 (Pl.num L 2),.int .i64 (Pl.num L 3),.int .i64 (Pl.num L 4),.slice A (Pl.wS L).length c,.slice A' (Pl.wG L).length c'] 25)=oa
 generalize hob:(Obj.cells #[.int .i64 0,.int .i64 0,.int .i64 0,.int .i64 0,.slice none 0 0,.slice none 0 0] 25)=ob
 generalize hoc:(Obj.cells #[.int .i64 (Pl.num L 1),.int .i64 (Pl.num L 2),.int .i64 (Pl.num L 3),.int .i64 (Pl.num L 4),.slice none 0 0,.slice none 0 0] 25)=oc
 have HA:=hid hoa
 have HB:=hid hob
 have HC:=hid hoc
 clear hoa hob hoc
 go_enter Tryz.func24,Tryz.ntmps24
 go_wp2_with fail
 clear hmk
 go_loopw [5] (λv wr=>∃ i:Nat,i<=(Pl.wS L).length/\v=.int .i64 i/\F3 w wr oa ob oc/\wr.heap.size=w.heap.size+4/\IntRow 3 wr (w.heap.size+1+1+1) (rk (Pl.nmS L) i)) (λv _=>(Pl.wS L).length-(intOf v).toNat)
 case atStart =>
  refine⟨0,AsD _,rfl,?_,by simp,?_⟩
  ·rw[<-HA.out,<-HB.out,<-HC.out]
   have T:=cR w (Obj.cells #[.int .i64 (Pl.num L 1),.int .i64 (Pl.num L 2),.int .i64 (Pl.num L 3),.int .i64 (Pl.num L 4),.slice A (Pl.wS L).length c,.slice A' (Pl.wG L).length c'] 25) (Obj.cells #[.int .i64 0,.int .i64 0,.int .i64 0,.int .i64 0,.slice none 0 0,.slice none 0 0] 25) (Obj.cells #[.int .i64 (Pl.num L 1),.int .i64 (Pl.num L 2),.int .i64 (Pl.num L 3),.int .i64 (Pl.num L 4),.slice none 0 0,.slice none 0 0] 25)
   exact F3.alloc ⟨T.1,T.2.1,T.2.2.1,T.2.2.2⟩ _
  rw[AdZ,NL.out]
  have:=IntRow.made 3 (((w.alloc (Obj.cells #[.int .i64 (Pl.num L 1),.int .i64 (Pl.num L 2),.int .i64 (Pl.num L 3),.int .i64 (Pl.num L 4),.slice A (Pl.wS L).length c,.slice A' (Pl.wG L).length c'] 25)).alloc (Obj.cells #[.int .i64 0,.int .i64 0,.int .i64 0,.int .i64 0,.slice none 0 0,.slice none 0 0] 25)).alloc (Obj.cells #[.int .i64 (Pl.num L 1),.int .i64 (Pl.num L 2),.int .i64 (Pl.num L 3),.int .i64 (Pl.num L 4),.slice none 0 0,.slice none 0 0] 25)) (Pl.wS L).length
  have e:∀ a b c:Obj,(((w.alloc a).alloc b).alloc c).heap.size=w.heap.size+1+1+1:=λa b c=>by simp
  rwa [e] at this
 case round =>
  obtain⟨i,hi,rfl,hF,hsz,hX⟩:=hrel
  by_cases hlt:i<(Pl.wS L).length
  ·have HF:=hid hF
   have HX:=hid hX
   clear hF hX
   have HN:=hid (show (Pl.nmS L)[i]?=some (Pl.wS L)[i].name by rw[<-fD];simp[hlt])
   go_wp2_with fail
   go_loopw [6] (λv wr=>∃ k:Nat,k<=(Pl.wS L).length/\v=.int .i64 k/\F3 w wr oa ob oc/\wr.heap.size=w.heap.size+4/\IntRow 3 wr (w.heap.size+1+1+1) ((rk (Pl.nmS L) i).set i (Pl.rank ((Pl.nmS L).take k) (Pl.wS L)[i].name))) (λv _=>(Pl.wS L).length-(intOf v).toNat)
   case atStart =>
    refine⟨0,AsD _,rfl,HF.out,hsz,?_⟩
    have e:Pl.rank ((Pl.nmS L).take 0) (Pl.wS L)[i].name=0:=by simp[Pl.rank]
    rw[e,rO (by rw[NL.out];exact hlt)];exact HX.out
   case round =>
    clear HF HX hsz
    obtain⟨k,hk,rfl,hF,hsz,hX⟩:=hrel
    by_cases hlk:k<(Pl.wS L).length
    ·obtain⟨b,o,rfl,hb,on⟩:=(HS.out.below rfl hF.2.2.2).at hlk
     obtain⟨b',o',hAe,hb',on'⟩:=(HS.out.below rfl hF.2.2.2).at hlt
     obtain⟨rfl,rfl⟩:b'=b/\o'=o:=by cases hAe;exact⟨rfl,rfl⟩
     clear hAe hb'
     have a0:=(bE on).1
     have a1:=(bE on').1
     clear on on'
     rw[show k*aQ.m=k*12 from rfl] at a0
     rw[show i*aQ.m=i*12 from rfl] at a1
     have hpr:=hF.1
     rw[<-HA.out] at hpr
     obtain⟨⟨-,-,-,-,p4,-⟩,-,-⟩:=row6 hpr
     have hNk:(Pl.nmS L)[k]'(by rw[NL.out];exact hlk)=(Pl.wS L)[k].name:=by
      have:(Pl.nmS L)[k]?=some (Pl.wS L)[k].name:=by rw[<-fD];simp[hlk]
      exact AsO ((ArN _).symm.trans this)
     have hmore:=rP (N:=Pl.nmS L) (k:=k) (by rw[NL.out];exact hlk) (Pl.wS L)[i].name
     rw[hNk] at hmore
     have hle:=AeA ((Pl.nmS L).take k) (Pl.wS L)[i].name
     have htl:((Pl.nmS L).take k).length<=24:=by rw[AsU,NL.out];omega
     have hl':i<(rk (Pl.nmS L) i).length:=by rw[AkT (by rw[NL.out];exact hi),NL.out];exact hlt
     generalize Pl.rank ((Pl.nmS L).take k) (Pl.wS L)[i].name=v at hX hmore hle
     have x0:=hX.cell (j:=i) (v:=v) (by simp[hl'])
     have f0:=hX.frozen i
     have hc0:=tV (Pl.wS L)[k].name (Pl.wS L)[i].name
     by_cases hc:(Pl.wS L)[k].name<(Pl.wS L)[i].name
     ·rw[decide_eq_true hc] at hc0
      rw[ArZ hc] at hmore
      have HF:=hid hF
      have HX:=hid hX
      have HM:=hid hmore
      have hadd:v+1<=25:=by omega
      clear hF hX hpr hmore hNk hl' hc
      go_wp2_with fail
      go_quiet (fail)
      go_wp2
      go_roundw
      case rel=>exact⟨k+1,by omega,by go_num,F3.set (HF.out.drewN _) _ _ (by simp only;omega),by simpa using hsz,by rw[HM.out];have:=(HX.out.drewN nq).set i (v+1);rw[List.set_set] at this;exact this⟩
      case measure=>simp[intOf];omega
     rw[decide_eq_false hc] at hc0
     rw[ArY hc,Int.add_zero] at hmore
     have HF:=hid hF
     have HX:=hid hX
     have HM:=hid hmore
     clear hF hX hpr hmore hNk hl' hc
     go_wp2_with fail
     go_quiet (fail)
     go_wp2
     go_roundw
     case rel=>exact⟨k+1,by omega,by go_num,HF.out.drewN _,by simpa using hsz,by rw[HM.out];exact HX.out⟩
     case measure=>simp[intOf];omega
    obtain rfl:k=(Pl.wS L).length:=by omega
    have HF:=hid hF
    have HX':=hid (show IntRow 3 _ (w.heap.size+1+1+1) (rk (Pl.nmS L) (i+1)) from by
     have hN:(Pl.nmS L)[i]'(by rw[NL.out];exact hlt)=(Pl.wS L)[i].name:=AsO ((ArN _).symm.trans HN.out)
     rw[<-NL.out,AsT (ArR _),<-hN,AkV] at hX
     exact hX)
    clear hF hX
    go_wp2
    go_roundw
    case rel=>exact⟨i+1,by omega,by go_num,HF.out,hsz,HX'.out⟩
    case measure=>simp[intOf];omega
  obtain rfl:i=(Pl.wS L).length:=by omega
  have HX:=hid (show IntRow 3 _ (w.heap.size+1+1+1) (Pl.ranks (Pl.nmS L)) from by
   rw[<-NL.out,AkU] at hX;exact hX)
  have HF:=hid hF
  have hmk:=run_make_row' (P:=Tryz.prog) 90 3 (.int .i64 0) 8 Tryz.underlying90 (by kernel_rfl) rfl .i64 .i64 (Pl.wG L).length (by omega) (by omega)
  have hpr:=hF.1
  rw[<-HA.out] at hpr
  obtain⟨⟨-,-,-,-,-,p5⟩,-,-⟩:=row6 hpr
  clear hF hX hpr
  go_wp2_with fail
  clear hmk
  have NG:=hid (show (Pl.nmG L).length=(Pl.wG L).length by rw[<-fE,AsH])
  go_loopw [8] (λv wr=>∃ i:Nat,i<=(Pl.wG L).length/\v=.int .i64 i/\F3 w wr oa ob oc/\wr.heap.size=w.heap.size+5/\IntRow 3 wr (w.heap.size+1+1+1) (Pl.ranks (Pl.nmS L))/\IntRow 3 wr (w.heap.size+4) (rk (Pl.nmG L) i)) (λv _=>(Pl.wG L).length-(intOf v).toNat)
  case atStart =>
   refine⟨0,AsD _,rfl,HF.out.alloc _,by simp[hsz],HX.out.alloc _,?_⟩
   rw[AdZ,NG.out,<-hsz]
   exact IntRow.made _ _ _
  case round =>
   clear HF HX hsz p5
   obtain⟨i,hi,rfl,hF,hsz,hX0,hX⟩:=hrel
   by_cases hlt:i<(Pl.wG L).length
   ·have HF:=hid hF
    have HX:=hid hX
    have HX0:=hid hX0
    clear hF hX hX0
    have HN:=hid (show (Pl.nmG L)[i]?=some (Pl.wG L)[i].name by rw[<-fE];simp[hlt])
    go_wp2_with fail
    go_loopw [9] (λv wr=>∃ k:Nat,k<=(Pl.wG L).length/\v=.int .i64 k/\F3 w wr oa ob oc/\wr.heap.size=w.heap.size+5/\IntRow 3 wr (w.heap.size+1+1+1) (Pl.ranks (Pl.nmS L))/\IntRow 3 wr (w.heap.size+4) ((rk (Pl.nmG L) i).set i (Pl.rank ((Pl.nmG L).take k) (Pl.wG L)[i].name))) (λv _=>(Pl.wG L).length-(intOf v).toNat)
    case atStart =>
     refine⟨0,AsD _,rfl,HF.out,hsz,HX0.out,?_⟩
     have e:Pl.rank ((Pl.nmG L).take 0) (Pl.wG L)[i].name=0:=by simp[Pl.rank]
     rw[e,rO (by rw[NG.out];exact hlt)];exact HX.out
    case round =>
     clear HF HX HX0 hsz
     obtain⟨k,hk,rfl,hF,hsz,hX0,hX⟩:=hrel
     by_cases hlk:k<(Pl.wG L).length
     ·obtain⟨b,o,rfl,hb,on⟩:=(HG.out.below rfl hF.2.2.2).at hlk
      obtain⟨b',o',hAe,hb',on'⟩:=(HG.out.below rfl hF.2.2.2).at hlt
      obtain⟨rfl,rfl⟩:b'=b/\o'=o:=by cases hAe;exact⟨rfl,rfl⟩
      clear hAe hb'
      have a0:=(cF on).1
      have a1:=(cF on').1
      clear on on'
      rw[show k*bD.m=k*3 from rfl] at a0
      rw[show i*bD.m=i*3 from rfl] at a1
      have hpr:=hF.1
      rw[<-HA.out] at hpr
      obtain⟨⟨-,-,-,-,-,p5⟩,-,-⟩:=row6 hpr
      have hNk:(Pl.nmG L)[k]'(by rw[NG.out];exact hlk)=(Pl.wG L)[k].name:=by
       have:(Pl.nmG L)[k]?=some (Pl.wG L)[k].name:=by rw[<-fE];simp[hlk]
       exact AsO ((ArN _).symm.trans this)
      have hmore:=rP (N:=Pl.nmG L) (k:=k) (by rw[NG.out];exact hlk) (Pl.wG L)[i].name
      rw[hNk] at hmore
      have hle:=AeA ((Pl.nmG L).take k) (Pl.wG L)[i].name
      have htl:((Pl.nmG L).take k).length<=24:=by rw[AsU,NG.out];omega
      have hl':i<(rk (Pl.nmG L) i).length:=by rw[AkT (by rw[NG.out];exact hi),NG.out];exact hlt
      generalize Pl.rank ((Pl.nmG L).take k) (Pl.wG L)[i].name=v at hX hmore hle
      have x0:=hX.cell (j:=i) (v:=v) (by simp[hl'])
      have f0:=hX.frozen i
      have hc0:=tV (Pl.wG L)[k].name (Pl.wG L)[i].name
      have HX0:=hid hX0
      clear hX0
      by_cases hc:(Pl.wG L)[k].name<(Pl.wG L)[i].name
      ·rw[decide_eq_true hc] at hc0
       rw[ArZ hc] at hmore
       have HF:=hid hF
       have HX:=hid hX
       have HM:=hid hmore
       have hadd:v+1<=25:=by omega
       clear hF hX hpr hmore hNk hl' hc
       go_wp2_with fail
       go_quiet (fail)
       go_wp2
       go_roundw
       case rel=>exact⟨k+1,by omega,by go_num,F3.set (HF.out.drewN _) _ _ (by simp only;omega),by simpa using hsz,IntRow.far (HX0.out.drewN nq) _ _ (by simp only;omega),by rw[HM.out];have:=(HX.out.drewN nq).set i (v+1);rw[List.set_set] at this;exact this⟩
       case measure=>simp[intOf];omega
      rw[decide_eq_false hc] at hc0
      rw[ArY hc,Int.add_zero] at hmore
      have HF:=hid hF
      have HX:=hid hX
      have HM:=hid hmore
      clear hF hX hpr hmore hNk hl' hc
      go_wp2_with fail
      go_quiet (fail)
      go_wp2
      go_roundw
      case rel=>exact⟨k+1,by omega,by go_num,HF.out.drewN _,by simpa using hsz,HX0.out,by rw[HM.out];exact HX.out⟩
      case measure=>simp[intOf];omega
     obtain rfl:k=(Pl.wG L).length:=by omega
     have HF:=hid hF
     have HX0:=hid hX0
     have HX':=hid (show IntRow 3 _ (w.heap.size+4) (rk (Pl.nmG L) (i+1)) from by
      have hN:(Pl.nmG L)[i]'(by rw[NG.out];exact hlt)=(Pl.wG L)[i].name:=AsO ((ArN _).symm.trans HN.out)
      rw[<-NG.out,AsT (ArR _),<-hN,AkV] at hX
      exact hX)
     clear hF hX hX0
     go_wp2
     go_roundw
     case rel=>exact⟨i+1,by omega,by go_num,HF.out,hsz,HX0.out,HX'.out⟩
     case measure=>simp[intOf];omega
   obtain rfl:i=(Pl.wG L).length:=by omega
   have HX:=hid (show IntRow 3 _ (w.heap.size+4) (Pl.ranks (Pl.nmG L)) from by
    rw[<-NG.out,AkU] at hX;exact hX)
   have HX0:=hid hX0
   have HF:=hid hF
   have hmk:=cK aQ nM (P:=Tryz.prog) 22 56 _ 104 Tryz.underlying22 AdU rfl .i64 .i64 (Pl.wS L).length (by omega) (by omega)
   have hoc:=hF.2.2.1
   rw[<-HC.out] at hoc
   have c4:wr.cell? ⟨w.heap.size+1+1,4,none⟩=some (.slice none 0 0):=(row6 hoc).1.2.2.2.2.1
   have f4:wr.frozen? ⟨w.heap.size+1+1,4,none⟩=false:=(row6 hoc).2.1.2.2.2.2.1
   have go2:w.heap.size+1+1<wr.heap.size:=(row6 hoc).2.2
   have FR:=hid hoc
   clear hF hX hX0 hoc
   go_wp2_with fail
   clear hmk
   have SL0:=hid (SecLoop.start HF.out FR.out hsz HX0.out HX.out 56)
   go_loopw [10] (λv wr=>∃ i:Nat,i<=(Pl.wS L).length/\v=.int .i64 i/\SecLoop 3 56 25 w wr oa ob L i) (λv _=>(Pl.wS L).length-(intOf v).toNat)
   case atStart=>exact⟨0,AsD _,rfl,SL0.out⟩
   case round =>
    clear HF HX HX0 hsz c4 f4 go2 FR SL0
    obtain⟨i,hi,rfl,hSL⟩:=hrel
    by_cases hlt:i<(Pl.wS L).length
    ·obtain⟨b,o,rfl,hb,on⟩:=(HS.out.below rfl hSL.1.2.2.2).at hlt
     obtain⟨a0,a1,a2,a3,a4,a5,a6,a7,a8,a9,a10,a11⟩:=bE on
     rw[show i*aQ.m=i*12 from rfl] at a0 a1 a2 a3 a4 a5 a6 a7 a8 a9 a10 a11
     have hpr:=hSL.1.1
     rw[<-HA.out] at hpr
     obtain⟨⟨-,-,-,-,p4,-⟩,-,-⟩:=row6 hpr
     have HSL:=hid hSL
     have HU:=hid (Pl.Upto.zero (Pl.ranks (Pl.nmS L)) (Pl.ranks (Pl.nmG L)) (Pl.wS L)[i])
     have HSI:=hid (ArN hlt)
     generalize hsi:(Pl.wS L)[i]=si at a0 a1 a2 a3 a4 a5 a6 a7 a8 a9 a10 a11 HU HSI
     clear on hSL hpr hsi
     go_wp2_with fail
     clear a0 a1 a2 a3 a4 a5 a6 a7 a8 a9 a10 a11
     have HG0:=hid (show (wr.alloc (.cells (aI si).toArray 56)).heap[wr.heap.size]?=some (.cells (aI si).toArray 56 (0,0)) from AsW _ _)
     have HS0:=hid (HSL.out.alloc (.cells (aI si).toArray 56))
     have hgz:=HSL.out.size
     generalize wr.heap.size=g at HG0 hgz ⊢
     go_loopw [12] (λv wr=>∃ e:Nat,e<=3/\v=.int .i64 e/\SecLoop 3 56 25 w wr oa ob L i/\∃ t,Pl.Upto (Pl.ranks (Pl.nmS L)) (Pl.ranks (Pl.nmG L)) e si t/\wr.heap[g]?=some (.cells (aI t).toArray 56 (0,0))) (λv _=>3-(intOf v).toNat)
     case atStart=>exact⟨0,by omega,rfl,HS0.out,si,HU.out,HG0.out⟩
     case round =>
      clear HSL HU HG0 HS0 p4
      obtain⟨e,he,rfl,hSL,t,hU,hG0⟩:=hrel
      have f:=λj=>AsZ _ g j _ _ hG0
      have ggw:=(ArL hG0).1
      by_cases he3:e<3
      ·have d3:decide ((e:Int)<3)=true:=aC (by omega)
       have t0:=xD (oV hG0) he3
       have t2:=AaV (oV hG0) he3
       rw[Nat.zero_add] at t0 t2
       have f0:=f (3+e*3)
       have f2:=f (3+e*3+2)
       have hge:=hU.2.2.2.2 e he3 (ArR e)
       obtain⟨b0,b2⟩:=Pl.wS_ends HO.out HSI.out e
       rw[<-hge] at b0 b2
       have HSL:=hid hSL
       have HU:=hid hU
       have HG0:=hid hG0
       have HN:=hid (hU.next he3)
       have HP:=hid (Pl.put_ren hU he3)
       have I0:=hid hSL.2.1
       have I1:=hid hSL.2.2.1
       clear hSL hU hG0 f hge
       by_cases q0:(t.get e).goes<0
       ·have D0:decide (0<=(t.get e).goes)=false:=aB (by omega)
        by_cases q2:(t.get e).sig<0
        ·have D2:decide (0<=(t.get e).sig)=false:=aB (by omega)
         go_wp2
         go_roundw
         case rel=>exact⟨e+1,by omega,by go_num,HSL.out,t,by have:=HN.out;rw[HP.out,Pl.setTo_same he3 q0,Pl.setSig_same he3 q2] at this;exact this,HG0.out⟩
         case measure=>simp[intOf];omega
        obtain⟨m,hm⟩:∃ m:Nat,(t.get e).sig=m:=⟨(t.get e).sig.toNat,by omega⟩
        rw[hm] at t2 b2
        have hml:m<(Pl.nmG L).length:=by rw[NG.out];omega
        have r2:=I1.out.cell (Pl.ren1_at hml)
        have HM:=hid hm
        have hml':m<(Pl.wG L).length:=by omega
        clear b2 hm hml
        go_wp2
        go_roundw
        case rel=>exact⟨e+1,by omega,by go_num,HSL.out.far _ _ hgz,_,by have:=HN.out;rw[HP.out,Pl.setTo_same he3 q0,HM.out] at this;exact this,nK HG0.out (fP he3 _ _)⟩
        case measure=>simp[intOf];omega
       obtain⟨n,hn⟩:∃ n:Nat,(t.get e).goes=n:=⟨(t.get e).goes.toNat,by omega⟩
       rw[hn] at t0 b0
       have hnl:n<(Pl.nmS L).length:=by rw[NL.out];omega
       have r0:=I0.out.cell (Pl.ren1_at hnl)
       have HM0:=hid hn
       have hnl':n<(Pl.wS L).length:=by omega
       clear b0 hn hnl
       by_cases q2:(t.get e).sig<0
       ·have D2:decide (0<=(t.get e).sig)=false:=aB (by omega)
        go_wp2
        go_roundw
        case rel=>exact⟨e+1,by omega,by go_num,HSL.out.far _ _ hgz,_,by have:=HN.out;rw[HP.out,<-Pl.setTo_get_sig (Pl.ren1 (Pl.ranks (Pl.nmS L)) (t.get e).goes) he3,Pl.setSig_same he3 (by rw[Pl.setTo_get_sig _ he3];exact q2),HM0.out] at this;exact this,nK HG0.out (cM he3 _ _)⟩
        case measure=>simp[intOf];omega
       obtain⟨m,hm⟩:∃ m:Nat,(t.get e).sig=m:=⟨(t.get e).sig.toNat,by omega⟩
       rw[hm] at t2 b2
       have hml:m<(Pl.nmG L).length:=by rw[NG.out];omega
       have r2:=I1.out.cell (Pl.ren1_at hml)
       have HM:=hid hm
       have hml':m<(Pl.wG L).length:=by omega
       have hgne:w.heap.size+4≠g:=by omega
       clear b2 hm hml
       go_wp2
       go_roundw
       case rel=>exact⟨e+1,by omega,by go_num,(HSL.out.far _ _ hgz).far _ _ hgz,_,by have:=HN.out;rw[HP.out,HM0.out,HM.out] at this;exact this,nK (nK HG0.out (cM he3 _ _)) (fP he3 _ _)⟩
       case measure=>simp[intOf];omega
      obtain rfl:e=3:=by omega
      have ht:=hU.done
      obtain⟨hF,hX0,hX1,Y,hY,hYb,hT⟩:=hSL
      obtain⟨⟨-,-,-,-,v4,-⟩,-,-⟩:=row6 hF.2.2.1
      have hrl:(Pl.rank (Pl.nmS L) si.name).toNat<Y.length:=by
       have:=Pl.rank_lt (Pl.wS_name_mem HSI.out)
       have:=Pl.rank_nonneg (Pl.nmS L) si.name
       have:=NL.out
       omega
      have ri:=hX0.cell (Pl.ranks_at (i:=i) (nm:=si.name) (by rw[<-fD,List.getElem?_map,HSI.out];rfl))
      obtain⟨r,hr⟩:∃ r:Nat,Pl.rank (Pl.nmS L) si.name=r:=⟨(Pl.rank (Pl.nmS L) si.name).toNat,by have:=Pl.rank_nonneg (Pl.nmS L) si.name;omega⟩
      rw[hr] at ri hrl
      rw[AsP] at hrl
      obtain⟨y,hy⟩:∃ y,Y[r]?=some y:=⟨_,ArN hrl⟩
      have oy:=bE (AbG hYb hy)
      simp only[show r*aQ.m=r*12 from rfl] at oy
      obtain⟨y0,y1,y2,y3,y4,y5,y6,y7,y8,y9,y10,y11⟩:=oy
      have yf:=λo=>AsZ _ (w.heap.size+5) o _ _ hYb
      have z0:=yf (r*12)
      have z1:=yf (r*12+1)
      have z2:=yf (r*12+2)
      have z3:=yf (r*12+3)
      have z4:=yf (r*12+4)
      have z5:=yf (r*12+5)
      have z6:=yf (r*12+6)
      have z7:=yf (r*12+7)
      have z8:=yf (r*12+8)
      have z9:=yf (r*12+9)
      have z10:=yf (r*12+10)
      have z11:=yf (r*12+11)
      have on:=bE (oV hG0)
      simp only[Nat.zero_add] at on
      obtain⟨a0,a1,a2,a3,a4,a5,a6,a7,a8,a9,a10,a11⟩:=on
      have hrl':r<(Pl.wS L).length:=by omega
      have HNX:=hid (SecLoop.next HO.out HSI.out hr (show SecLoop 3 56 25 w wr oa ob L i from⟨hF,hX0,hX1,Y,hY,hYb,hT⟩) ht)
      clear hF hX0 hX1 hYb hT hr ht hU hG0 f hY hrl yf hy
      go_wp2_with fail
      go_region
      go_wp2
      go_roundw
      case rel=>exact⟨i+1,by omega,by go_num,HNX.out.drew⟩
      case measure=>simp[intOf];omega
    obtain rfl:i=(Pl.wS L).length:=by omega
    obtain⟨hF,hX0,hX1,Y,hY,hYb,hT⟩:=hSL
    have hYe:=Pl.secs_whole HO.out hY λj s hj=>hT j s (ArM hj).1 hj
    subst hYe
    have hmk:=cK bD nN (P:=Tryz.prog) 23 58 _ 32 Tryz.underlying23 AdV rfl .i64 .i64 (Pl.wG L).length (by omega) (by omega)
    have c5:wr.cell? ⟨w.heap.size+1+1,5,none⟩=some (.slice none 0 0):=(row6 hF.2.2.1).1.2.2.2.2.2
    have f5:wr.frozen? ⟨w.heap.size+1+1,5,none⟩=false:=(row6 hF.2.2.1).2.1.2.2.2.2.2
    have go2:w.heap.size+1+1<wr.heap.size:=(row6 hF.2.2.1).2.2
    have hg5:=(ArL hYb).1
    have SG:=hid (λo=>SigLoop.start hF hX0 hX1 hYb o)
    clear hF hX0 hX1 hYb hT hY
    go_wp2_with fail
    have SG0:=hid (SG.out 58)
    clear hmk SG c5 f5 go2 hg5
    generalize wr.heap.size=g2 at SG0 ⊢
    go_loopw [13] (λv wr=>∃ i:Nat,i<=(Pl.wG L).length/\v=.int .i64 i/\SigLoop 3 56 58 25 w wr oa ob g2 L i) (λv _=>(Pl.wG L).length-(intOf v).toNat)
    case atStart=>exact⟨0,AsD _,rfl,SG0.out⟩
    case round =>
     clear SG0
     obtain⟨i,hi,rfl,hSL⟩:=hrel
     by_cases hlt:i<(Pl.wG L).length
     ·obtain⟨b,o,rfl,hb,on⟩:=(HG.out.below rfl hSL.2.1.2.2.2).at hlt
      obtain⟨a0,a1,a2⟩:=cF on
      rw[show i*bD.m=i*3 from rfl] at a0 a1 a2
      have hpr:=hSL.2.1.1
      rw[<-HA.out] at hpr
      obtain⟨⟨-,-,-,-,-,p5⟩,-,-⟩:=row6 hpr
      have hSI:=ArN hlt
      generalize hsi:(Pl.wG L)[i]=si at a0 a1 a2 hSI
      obtain⟨s0,s1⟩:=Pl.wG_sec HO.out hSI
      obtain⟨n,hn⟩:∃ n:Nat,si.sec=n:=⟨si.sec.toNat,by omega⟩
      rw[hn] at a1 s1
      have hnl:n<(Pl.nmS L).length:=by rw[NL.out];omega
      have r0:=hSL.2.2.1.cell (Pl.ren1_at hnl)
      have hnl':n<(Pl.wS L).length:=by omega
      have ri:=hSL.2.2.2.1.cell (Pl.ranks_at (i:=i) (nm:=si.name) (by rw[<-fE,List.getElem?_map,hSI];rfl))
      obtain⟨r,hr⟩:∃ r:Nat,Pl.rank (Pl.nmG L) si.name=r:=⟨(Pl.rank (Pl.nmG L) si.name).toNat,by have:=Pl.rank_nonneg (Pl.nmG L) si.name;omega⟩
      have hrl:r<(Pl.wG L).length:=by
       have:=Pl.rank_lt (Pl.wG_name_mem hSI)
       have:=NG.out
       omega
      rw[hr] at ri
      have HNX:=hid (SigLoop.next HO.out hSI hr hSL rfl)
      have er:Pl.renSig (Pl.ranks (Pl.nmS L)) si=⟨si.name,Pl.ren1 (Pl.ranks (Pl.nmS L)) n,si.en⟩:=by unfold Pl.renSig;rw[hn]
      rw[er] at HNX
      obtain⟨hg5,hF,hX0,hX1,hYb,Z,hZ,hZb,hT⟩:=hSL
      obtain⟨⟨-,-,-,-,-,v5⟩,-,go2⟩:=row6 hF.2.2.1
      have go3:=(ArL hX0).1
      have go4:=(ArL hX1).1
      have gog:=(ArL hZb).1
      obtain⟨y,hy⟩:∃ y,Z[r]?=some y:=⟨_,ArN (by omega)⟩
      have oy:=cF (AbG hZb hy)
      simp only[show r*bD.m=r*3 from rfl] at oy
      obtain⟨y0,y1,y2⟩:=oy
      have yf:=λo=>AsZ _ g2 o _ _ hZb
      have z0:=yf (r*3)
      have z1:=yf (r*3+1)
      have z2:=yf (r*3+2)
      have hgo2:w.heap.size+1+1<wr.heap.size:=go2
      clear hF hX0 hX1 hYb hT hr yf hy hZ hZb on hpr hsi hSI s0 hn hnl er s1 go2
      go_wp2_with fail
      go_region
      go_wp2
      go_roundw
      case rel=>exact⟨i+1,by omega,by go_num,(HNX.out.alloc _).drew⟩
      case measure=>simp[intOf];omega
     obtain rfl:i=(Pl.wG L).length:=by omega
     obtain⟨hg5,hF,hX0,hX1,hYb,Z,hZ,hZb,hT⟩:=hSL
     have hZe:=Pl.sigs_whole HO.out hZ λj s hj=>hT j s (ArM hj).1 hj
     subst hZe
     obtain⟨⟨v0,v1,v2,v3,v4,v5⟩,-,-⟩:=row6 hF.2.2.1
     have hob:=hF.2.1
     rw[<-HB.out] at hob
     obtain⟨⟨q0,q1,q2,q3,q4,q5⟩,⟨e0,e1,e2,e3,e4,e5⟩,gq⟩:=row6 hob
     have HF:=hid hF
     have HYb:=hid hYb
     have HZb:=hid hZb
     clear hF hX0 hX1 hYb hT hZ hZb hob
     go_wp2_with fail
     refine bodyPost_ret ?_ rfl (PlanAgg.of (w':=_) (g:=w.heap.size+5) (g2:=g2) (tS:=56) (tG:=58) ?_ ?_ (by omega) (by omega) ?_ rfl)
     ·simp[results,Tryz.results24,go_sem, *]
     ·repeat (with_reducible rw[AsX _ _ _ _ (by simp only;omega)])
      exact HYb.out
     ·repeat (with_reducible rw[AsX _ _ _ _ (by simp only;omega)])
      exact HZb.out
     (repeat (with_reducible refine Below.setCell ?_ (by exact Nat.le_succ _) _));exact HF.out.2.2.2
end Go.Proofs.YtjofpclmbjpgjaaGreat
