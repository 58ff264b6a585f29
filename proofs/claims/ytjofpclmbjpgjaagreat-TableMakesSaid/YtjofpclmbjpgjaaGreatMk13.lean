/- Lemmas. -/
import Derived.Test.YtjofpclmbjpgjaaGreatMk12
set_option maxHeartbeats 8000000
set_option maxRecDepth 100000
namespace Go.Proofs.YtjofpclmbjpgjaaGreat
open Lib (hid)
open Go.RowKit
abbrev kB (p:Pl.Plan) (A:Option Addr) (c:Nat) (A':Option Addr) (c':Nat) (b:Int) (h:Cr.HSt) (v:Value):Obj:=.cells #[.int .i64 p.ov,.int .i64 p.ap,.int .i64 p.se,.int .i64 p.ho,.slice A p.secs.length c,.slice A' p.sigs.length c',.int .i64 b,.int .i64 h.tries,.bool h.long,v] 134
def HuntAt (p:Pl.Plan) (A:Option Addr) (c:Nat) (A':Option Addr) (c':Nat) (b:Int) (g:Nat) (w0 wr:World) (v:Value) (h:Cr.HSt):Prop :=
 Below w0.heap.size w0 wr/\w0.heap.size<=g/\wr.heap[g]?=some (kB p A c A' c' b h v)/\∃ M:List WayM,M.map WayM.way=h.out/\wr.ownsRow w0.heap.size 88 dD.m v M.length (dD.all M)/\∀ m∈M,OwnS w0.heap.size wr m.A m.c m.way.steps
abbrev pD (w w':World):Prop:=Tame 134 88 w w'
def fH (p:Pl.Plan) (A:Option Addr) (c:Nat) (A':Option Addr) (c':Nat) (b:Int) (g:Nat) (w0:World) (h:Cr.HSt) (w:World) (e:Ending) (w':World):Prop :=
 e=.returned (.tuple #[])/\∃ v,HuntAt p A c A' c' b g w0 w' v h/\pD w w'
theorem row10 {w:World} {g:Nat} {a b c d e f i j k l:Value} {t:TypeId} (h:w.heap[g]?=some (.cells #[a,b,c,d,e,f,i,j,k,l] t (0,0))) :
 (w.cell? ⟨g,0,none⟩=some a/\w.cell? ⟨g,1,none⟩=some b/\w.cell? ⟨g,2,none⟩=some c/\w.cell? ⟨g,3,none⟩=some d/\w.cell? ⟨g,4,none⟩=some e/\w.cell? ⟨g,5,none⟩=some f/\w.cell? ⟨g,6,none⟩=some i/\w.cell? ⟨g,7,none⟩=some j/\w.cell? ⟨g,8,none⟩=some k/\w.cell? ⟨g,9,none⟩=some l) /\
 (w.frozen? ⟨g,7,none⟩=false/\w.frozen? ⟨g,8,none⟩=false/\w.frozen? ⟨g,9,none⟩=false)/\g<w.heap.size :=
 ⟨⟨AsY w g 0 _ t _ h,AsY w g 1 _ t _ h,AsY w g 2 _ t _ h,AsY w g 3 _ t _ h,AsY w g 4 _ t _ h,AsY w g 5 _ t _ h,AsY w g 6 _ t _ h,AsY w g 7 _ t _ h,AsY w g 8 _ t _ h,AsY w g 9 _ t _ h⟩,
   ⟨AsZ w g 7 _ t h,AsZ w g 8 _ t h,AsZ w g 9 _ t h⟩,(ArL h).1⟩
theorem pE {w:World} {g i:Nat} {cs:Array Value} {tH tW:TypeId} {u:Value} (h:w.heap[g]?=some (.cells cs tH (0,0))):Tame tH tW w (w.setCell ⟨g,i,none⟩ u):=by
 have B:=(Below.refl 0 w).setCell (p:=⟨g,i,none⟩) (AsD _) u
 refine⟨B.os,B.tape,B.output,B.size,λb cs' t fr hb h1 _=>?_⟩
 have hne:b≠g:=λe=>by
  subst e
  rw[h] at hb
  cases hb
  exact h1 rfl
 rw[AsX _ _ _ _ hne]
 exact hb
theorem nP {w:World} {g i:Nat} {cs:Array Value} {t:TypeId} {u:Value} (h:w.heap[g]?=some (.cells cs t (0,0))) {base:Nat} {e:TypeId} {size:Nat} {v:Value} {n:Nat} {xs:List Value} (ho:w.ownsRow base e size v n xs) (he:e≠t):(w.setCell ⟨g,i,none⟩ u).ownsRow base e size v n xs :=
 aL ho λb hb=>AsX _ _ _ _ λe'=>fG ho h he ((show b=g from e') ▸ hb)
section
variable {p : Pl.Plan} {A : Option Addr} {c : Nat} {A' : Option Addr} {c' : Nat} {b : Int} {g : Nat} {w0 wr : World} {v : Value} {h : Cr.HSt}
theorem HuntAt.below {w2:World} (hh:HuntAt p A c A' c' b g w0 wr v h) (hb:Below wr.heap.size wr w2):HuntAt p A c A' c' b g w0 w2 v h:=by
 obtain⟨h1,h2,h3,M,h4,h5,h6⟩:=hh
 exact⟨h1.trans (hb.mono h1.size),h2,(hb.block _ (ArL h3).1).trans h3,M,h4,aA h5 hb,λm hm=>aA (h6 m hm) hb⟩
theorem HuntAt.set {i:Nat} {u:Value} {h':Cr.HSt} (hh:HuntAt p A c A' c' b g w0 wr v h) (ho:h'.out=h.out) (hc:(kB p A c A' c' b h' v)=.cells ((match kB p A c A' c' b h v with | .cells cs _ _=>cs|_=>#[]).setIfInBounds i u) 134 (0,0)):HuntAt p A c A' c' b g w0 (wr.setCell ⟨g,i,none⟩ u) v h'/\pD wr (wr.setCell ⟨g,i,none⟩ u):=by
 obtain⟨h1,h2,h3,M,h4,h5,h6⟩:=hh
 refine⟨⟨h1.setCell h2 _,h2,?_,M,h4.trans ho.symm,nP h3 h5 (by decide),λm hm=>nP h3 (h6 m hm) (by decide)⟩,pE h3⟩
 rw[AtA _ _ _ _ _ _ h3,hc]
theorem HuntAt.tries {t:Int} {n:Nat} (hh:HuntAt p A c A' c' b g w0 wr v h) (ht:t=n):HuntAt p A c A' c' b g w0 (wr.setCell ⟨g,7,none⟩ (.int .i64 t)) v ⟨n,h.long,h.out⟩/\pD wr (wr.setCell ⟨g,7,none⟩ (.int .i64 t)):=by
 subst ht
 exact hh.set rfl rfl
theorem HuntAt.far {l:Bool} (hh:HuntAt p A c A' c' b g w0 wr v h):HuntAt p A c A' c' b g w0 (wr.setCell ⟨g,8,none⟩ (.bool l)) v ⟨h.tries,l,h.out⟩/\pD wr (wr.setCell ⟨g,8,none⟩ (.bool l)) :=
 hh.set rfl rfl
theorem HuntAt.came (hh:HuntAt p A c A' c' b g w0 wr v h):HuntAt p A c A' c' b g w0 ((wr.setCell ⟨g,7,none⟩ (.int .i64 ((h.tries:Int)+1))).setCell ⟨g,8,none⟩ (.bool (Cr.came h).long)) v (Cr.came h)/\pD wr ((wr.setCell ⟨g,7,none⟩ (.int .i64 ((h.tries:Int)+1))).setCell ⟨g,8,none⟩ (.bool (Cr.came h).long)):=by
 obtain⟨h1,t1⟩:=hh.tries (n:=h.tries+1) rfl
 obtain⟨h2,t2⟩:=h1.far (l:=(Cr.came h).long)
 exact⟨h2,t1.trans t2⟩
theorem kC (s f:Int) (st:List Wk.Stp) (B:Option Addr) (d:Nat) (hh:HuntAt p A c A' c' b g w0 wr v h) (ho:OwnS w0.heap.size wr B d st) (hl:st.length<=16) (ht:h.tries<=1000000) (hT:Cr.turns b s st h=true) :
 Calls Tryz.prog 73 #[.pointer (some ⟨g,0,none⟩),.int .i64 s,.int .i64 f,.slice B st.length d] wr (fH p A c A' c' b g w0 (Cr.came h) wr):=by
 --[
 obtain⟨⟨p0,p1,p2,p3,p4,p5,p6,p7,p8,p9⟩,⟨f7,f8,f9⟩,gg⟩:=row10 hh.2.2.1
 have q1:IntKind.i64.wrap ((h.tries:Int)+1)=(h.tries:Int)+1:=IntWalk.i64_in _ (by omega)
 have HC:=hid hh.came
 have OW:=hid ho
 have HW:=hid hh
 clear hh ho
 cases hlg:h.long with
 | true =>
   have P:=hid (show (Cr.came h).long=true by unfold Cr.came;simp[hlg])
   rw[P.out] at HC
   rw[hlg] at p8
   clear hlg hT
   go_enter Tryz.func73,Tryz.ntmps73
   go_wp2_with fail
   go_end0
   exact⟨rfl,v,HC.out⟩
 | false =>
   rw[hlg] at p8
   by_cases hm:400<h.tries+1
   ·have D:decide (400<(h.tries:Int)+1)=true:=aC (by omega)
    have P:=hid (show (Cr.came h).long=true by unfold Cr.came;simp[hm])
    rw[P.out] at HC
    clear hlg hT hm
    go_enter Tryz.func73,Tryz.ntmps73
    go_wp2_with fail
    go_end0
    exact⟨rfl,v,HC.out⟩
   have D:decide (400<(h.tries:Int)+1)=false:=aB (by omega)
   have P:=hid (show (Cr.came h).long=false by unfold Cr.came;simp[hlg,hm])
   rw[P.out] at HC
   by_cases hs:s=b
   ·have E:(s == b)=true:=by rw[beq_iff_eq];exact hs
    clear hlg hT hm hs
    go_enter Tryz.func73,Tryz.ntmps73
    go_wp2_with fail
    go_end0
    exact⟨rfl,v,HC.out⟩
   have E:(s == b)=false:=by rw[ArU];exact hs
   have hwi:Wk.within st s=true:=by
    unfold Cr.turns at hT
    rw[P.out,decide_eq_false hs,Bool.false_or,Bool.false_or] at hT
    exact hT
   have CW:=hid (λW (hr:OwnS w0.heap.size W B d st)=>bF B d st s W hr.row (by omega))
   rw[hwi] at CW
   have OC:=hid (aX OW.out HC.out.2 (by decide) (by decide))
   clear hlg hT hm hs hwi
   go_enter Tryz.func73,Tryz.ntmps73
   go_wp2_with fail
   refine(CW.out _ OC.out).mono ?_;rintro e w1 ⟨rfl,rfl⟩
   go_wp2_with fail
   go_end0
   exact⟨rfl,v,HC.out⟩
 --]
end
theorem AnY (w:World) (A:Option Addr) (c n:Nat) (e:Int) {L:List Wk.Stp} (hn:L.length=n):dD.Row (w.alloc (.cells #[.slice A n c,.int .i64 e] 88)) (some ⟨w.heap.size,0,none⟩) [⟨A,c,⟨L,e⟩⟩]:=by
 subst hn
 exact Lies.Row.fresh (E:=dD) w [⟨A,c,⟨L,e⟩⟩] 88
theorem AbO {tH tW:TypeId} {w w':World} {base size n:Nat} {v:Value} {xs:List Value} (ho:w.ownsRow base tW size v n xs) (hg:w.grownBy w' v.ownBlock):Tame tH tW w w' :=
 ⟨hg.os,hg.tape,hg.output,hg.size,λb cs t fr hb _ h2=>by
  rw[hg.block b (ArL hb).1 (λe=>?_)]
  ·exact hb
  rcases ho.2 with ⟨rfl,-⟩|⟨g,cap,cur,rfl,-,hgg,-⟩
  ·cases e
  obtain rfl:b=g:=AsO e
  rw[hb] at hgg
  cases hgg
  exact h2 rfl⟩
theorem AgZ {w w':World} {base base':Nat} {e e':TypeId} {size size':Nat} {v v':Value} {n n':Nat} {xs xs':List Value} (h:w.ownsRow base e size v n xs) (h':w.ownsRow base' e' size' v' n' xs') (he:e≠e') (hg:w.grownBy w' v'.ownBlock):w'.ownsRow base e size v n xs:=by
 refine h.kept hg ?_
 cases hk:v.ownBlock with
 | none=>exact .inl rfl
 | some k=>exact .inr λe2=>iA h h' he k hk e2.symm
theorem AhA {p:Pl.Plan} {A:Option Addr} {c:Nat} {A':Option Addr} {c':Nat} {b:Int} {g:Nat} {w0 w3 w4:World} {v' v4:Value} {hf:Cr.HSt} (h1:Below w0.heap.size w0 w3) (h2:w0.heap.size<=g) (h3:w3.heap[g]?=some (kB p A c A' c' b hf v')) {M:List WayM} (h4:M.map WayM.way=hf.out)
 (h5:w3.ownsRow w0.heap.size 88 dD.m v' M.length (dD.all M)) (h6:∀ m∈M,OwnS w0.heap.size w3 m.A m.c m.way.steps) {m:WayM} (hm:OwnS w0.heap.size w3 m.A m.c m.way.steps) {o:Obj}
 (hown:w4.ownsRow w0.heap.size 88 dD.m v4 (M.length+1) (dD.all M++dD.all [m])) (hg:(w3.alloc o).grownBy w4 v'.ownBlock) :
 w4.heap[g]?=some (kB p A c A' c' b hf v')/\HuntAt p A c A' c' b g w0 (w4.setCell ⟨g,9,none⟩ v4) v4 ⟨hf.tries,hf.long,hf.out++[m.way]⟩/\pD w3 (w4.setCell ⟨g,9,none⟩ v4):=by
 have hgl:=(ArL h3).1
 have h3':w4.heap[g]?=some (kB p A c A' c' b hf v'):=(hg.block g (by simp;omega) (λe=>fG h5 h3 (by decide) e.symm)).trans ((heap_alloc_old _ _ hgl).trans h3)
 have hS:∀ {B:Option Addr} {d:Nat} {X:List Wk.Stp},OwnS w0.heap.size w3 B d X->OwnS w0.heap.size (w4.setCell ⟨g,9,none⟩ v4) B d X:=λhX=>nP h3' (AgZ (World.ownsRow.alloc hX o) (h5.alloc o) (by decide) hg) (by decide)
 have hT1:=(AtB w3).alloc (ArR _) o
 refine⟨h3',⟨((h1.alloc h1.size o).grown hg (by have:=h1.size;simp;omega) (λk hk=>(h5.lt k hk).1)).setCell h2 _,h2,?_,M++[m],?_,?_,?_⟩,((Below.tame hT1 _ _).trans (AbO (h5.alloc o) hg)).trans (pE h3')⟩
 ·rw[AtA _ _ _ _ _ _ h3'];rfl
 ·rw[List.map_append,h4];rfl
 ·rw[ArV,List.length_singleton,dD.all_append]
  exact nP h3' hown (by decide)
 intro x hx
 rcases ArW.1 hx with hx|hx
 ·exact hS (h6 x hx)
 rw[AsS] at hx
 subst hx
 exact hS hm
end Go.Proofs.YtjofpclmbjpgjaaGreat
