/- Lemmas. -/
import Derived.Test.YtjofpclmbjpgjaaGreatMk41
set_option maxHeartbeats 16000000
set_option maxRecDepth 100000
namespace Go.Proofs.YtjofpclmbjpgjaaGreat
open Lib (hid)
open Go.RowKit
theorem mP {p:Pl.Plan} {b s f:Int} {st:List Wk.Stp} {h:Cr.HSt} (k:Nat) (hT:Cr.turns b s st h=true):Cr.enter p b k s f st h=Cr.came h:=by
 cases k <;> (unfold Cr.enter;rw[ArZ hT])
theorem zG {p:Pl.Plan} {b s f:Int} {st:List Wk.Stp} {h:Cr.HSt} (hT:Cr.turns b s st h=false):Cr.enter p b 0 s f st h=⟨h.tries+1,true,h.out⟩:=by
 unfold Cr.enter;rw[ArY (by rw[hT];decide)]
theorem zH {p:Pl.Plan} {b s f:Int} {st:List Wk.Stp} {h:Cr.HSt} (k:Nat) (hT:Cr.turns b s st h=false):Cr.enter p b (k+1) s f st h=(Wk.outs p s f).foldl (Cr.gone p (Cr.enter p b k) s st) (Cr.came h):=by
 rw[Cr.enter,ArY (by rw[hT];decide)]
theorem sO {b s:Int} {st:List Wk.Stp} {h:Cr.HSt} (hT:Cr.turns b s st h=false):¬ 400<h.tries+1/\(Cr.came h).long=false/\s≠b/\Wk.within st s=false:=by
 obtain⟨h1,h2,h3⟩:=Cr.turns_false (by rw[hT];decide:¬ Cr.turns b s st h=true)
 have h4:=h1
 unfold Cr.came at h4
 simp only[Bool.or_eq_false_iff,decide_eq_false_iff_not] at h4
 exact⟨h4.2,h1,h2,h3⟩
section
variable {p : Pl.Plan} {A : Option Addr} {c : Nat} {A' : Option Addr} {c' : Nat} {b : Int} {g : Nat} {w0 wr : World} {v : Value}
theorem mQ (s f:Int) (st:List Wk.Stp) (B:Option Addr) (d n:Nat) (M:List WayM) (hh:SeekAt p A c A' c' b g w0 wr v n M) (ho:OwnS w0.heap.size wr B d st) (hl:st.length<=16) (ht:n<=1000000) (hT:Cr.turns b s st ⟨n,false,M.map WayM.way⟩=true) :
 Calls Tryz.prog 63 #[.pointer (some ⟨g,0,none⟩),.slice B st.length d,.int .i64 s,.int .i64 f] wr (cE p A c A' c' b g w0 (Cr.came ⟨n,false,M.map WayM.way⟩) B d st M wr):=by
 --[
 obtain⟨⟨p0,p1,p2,p3,p4,p5,p6,p7,p8⟩,⟨f7,f8⟩,gg⟩:=row9 hh.2.2.1
 have q1:IntKind.i64.wrap ((n:Int)+1)=(n:Int)+1:=IntWalk.i64_in _ (by omega)
 have HC:=hid (hh.came (t:=(n:Int)+1) (k:=n+1) rfl)
 have OC:=hid (aX ho HC.out.2 (by decide) (by decide))
 have P:=hid (show (Cr.came ⟨n,false,M.map WayM.way⟩)=⟨n+1,decide (400<n+1),M.map WayM.way⟩ from rfl)
 clear hh
 by_cases hm:400<n+1
 ·have D:decide (400<(n:Int)+1)=true:=aC (by omega)
  have PL:=hid (show (Cr.came ⟨n,false,M.map WayM.way⟩).long=true by rw[P.out];exact aC hm)
  clear hT hm ho
  go_enter Tryz.func63,Tryz.ntmps63
  go_wp2
  go_ret
  exact .inl ⟨PL.out,rfl,HC.out.1.1⟩
 ·have D:decide (400<(n:Int)+1)=false:=aB (by omega)
  have hlo:(Cr.came ⟨n,false,M.map WayM.way⟩).long=false:=by rw[P.out];exact aB hm
  have PY:=hid (show cE p A c A' c' b g w0 (Cr.came ⟨n,false,M.map WayM.way⟩) B d st M wr (.returned (.bool true)) (wr.setCell ⟨g,7,none⟩ (.int .i64 ((n:Int)+1))) from
   .inr ⟨hlo,rfl,v,[],by rw[AsM];rfl,by rw[AsM];exact HC.out.1,Later.nil _,OC.out,HC.out.2.seeks _⟩)
  by_cases hs:s=b
  ·have E:(s == b)=true:=by rw[beq_iff_eq];exact hs
   clear hT hm hs ho hlo
   go_enter Tryz.func63,Tryz.ntmps63
   go_wp2
   go_ret
   exact PY.out
  have E:(s == b)=false:=by rw[ArU];exact hs
  have hwi:Wk.within st s=true:=by
   unfold Cr.turns at hT
   rw[hlo,decide_eq_false hs,Bool.false_or,Bool.false_or] at hT
   exact hT
  have CW:=hid (λW (hr:OwnS w0.heap.size W B d st)=>bG B d st s W hr.row (by omega))
  rw[hwi] at CW
  have PW:=hid (λW (hb:Below (wr.setCell ⟨g,7,none⟩ (.int .i64 ((n:Int)+1))).heap.size (wr.setCell ⟨g,7,none⟩ (.int .i64 ((n:Int)+1))) W)=>show cE p A c A' c' b g w0 (Cr.came ⟨n,false,M.map WayM.way⟩) B d st M wr (.returned (.bool true)) W from
   .inr ⟨hlo,rfl,v,[],by rw[AsM];rfl,by rw[AsM];exact HC.out.1.below hb,Later.nil _,aA OC.out hb,(HC.out.2.trans (Below.tame hb _ _)).seeks _⟩)
  clear hT hm hs hwi ho hlo
  go_enter Tryz.func63,Tryz.ntmps63
  go_wp2_with fail
  refine(CW.out _ OC.out).mono ?_;rintro e w1 ⟨rfl,hb1⟩
  have PZ:=hid (PW.out _ hb1)
  clear hb1
  go_wp2
  go_ret
  exact PZ.out
 --]
theorem zI (s f:Int) (st:List Wk.Stp) (B:Option Addr) (d n:Nat) (M:List WayM) (hh:SeekAt p A c A' c' b g w0 wr v n M) (ho:OwnS w0.heap.size wr B d st) (hl:st.length=16) (ht:n<=1000000) (hT:Cr.turns b s st ⟨n,false,M.map WayM.way⟩=false) :
 Calls Tryz.prog 63 #[.pointer (some ⟨g,0,none⟩),.slice B st.length d,.int .i64 s,.int .i64 f] wr (cE p A c A' c' b g w0 ⟨n+1,true,M.map WayM.way⟩ B d st M wr):=by
 --[
 obtain⟨hm,-,hs,hwi⟩:=sO hT
 obtain⟨⟨p0,p1,p2,p3,p4,p5,p6,p7,p8⟩,⟨f7,f8⟩,gg⟩:=row9 hh.2.2.1
 have q1:IntKind.i64.wrap ((n:Int)+1)=(n:Int)+1:=IntWalk.i64_in _ (by omega)
 have HC:=hid (hh.came (t:=(n:Int)+1) (k:=n+1) rfl)
 have OC:=hid (aX ho HC.out.2 (by decide) (by decide))
 have D:decide (400<(n:Int)+1)=false:=aB (by simp only at hm;omega)
 have E:(s == b)=false:=by rw[ArU];exact hs
 have D16:((st.length:Int) == 16)=true:=by rw[beq_iff_eq];omega
 have CW:=hid (λW (hr:OwnS w0.heap.size W B d st)=>bG B d st s W hr.row (by omega))
 rw[hwi] at CW
 clear hT hm hs hwi ho hh hl
 go_enter Tryz.func63,Tryz.ntmps63
 go_wp2_with fail
 refine(CW.out _ OC.out).mono ?_;rintro e w1 ⟨rfl,hb1⟩
 have PZ:=hid (HC.out.1.1.trans (hb1.mono HC.out.1.1.size))
 clear hb1
 go_wp2
 go_ret
 exact .inl ⟨rfl,rfl,PZ.out⟩
 --]
theorem AiE {p:Pl.Plan} {b:Int} {k:Nat} {s:Int} {st:List Wk.Stp} {L:List Wk.Stp} {j:Nat} {h:Cr.HSt} (hl:((L.take j).foldl (Cr.gone p (Cr.enter p b k) s st) h).long=true):(L.foldl (Cr.gone p (Cr.enter p b k) s st) h).long=true:=by
 rw[<-List.take_append_drop j L,List.foldl_append]
 exact(Cr.fold_grows p b k s st (L.drop j) _).2.1 hl
def ApD (p:Pl.Plan) (A:Option Addr) (c:Nat) (A':Option Addr) (c':Nat) (b:Int) (g:Nat) (w0:World) (B:Option Addr) (d:Nat) (st:List Wk.Stp) (M:List WayM) (w5:World) (h:Cr.HSt) (w':World):Prop :=
 h.long=false/\∃ v N,(M++N).map WayM.way=h.out/\SeekAt p A c A' c' b g w0 w' v h.tries (M++N)/\Later w5.heap.size N/\OwnS w0.heap.size w' B d st/\mM (blk B) w5 w'
theorem AqD (w:World) (y:Wk.Stp) {g:Nat} (hg:w.heap.size=g):aE.Row (w.alloc (.cells #[.int .i64 y.s,.int .i64 y.f,.int .i64 y.t] 129)) (some ⟨g,0,none⟩) [y]:=hg ▸ Lies.Row.fresh (E:=aE) w [y] 129
theorem AiF {w:World} {tr:Nat} {MN:List WayM} {B:Option Addr} {d:Nat} {st:List Wk.Stp} {x:Wk.Stp} {o1 o2:Obj} {g1 cap1:Nat} {w8:World} (hS:SeekAt p A c A' c' b g w0 w v tr MN) (hO:OwnS w0.heap.size w B d st) (hof:Offside B MN)
 (hown:w8.ownsRow w0.heap.size 129 aE.m (.slice (some ⟨g1,0,none⟩) (st.length+1) cap1) (st.length+1) (aE.all st++aE.all [x])) (hkeep:w8.ownsRow w0.heap.size 129 aE.m (.slice B st.length d) st.length (aE.all st))
 (hat:(Value.slice B st.length d=.slice (some ⟨g1,0,none⟩) st.length cap1/\((w.alloc o1).alloc o2).grownBy w8 (some g1))∨(g1=((w.alloc o1).alloc o2).heap.size/\((w.alloc o1).alloc o2).grownBy w8 none)) :
 SeekAt p A c A' c' b g w0 w8 v tr MN/\OwnS w0.heap.size w8 (some ⟨g1,0,none⟩) cap1 (st++[x])/\Offside (some ⟨g1,0,none⟩) MN/\OwnS w0.heap.size w8 B d st/\mM (blk B) w w8/\((B=some ⟨g1,0,none⟩/\d=cap1)∨w.heap.size<=g1):=by
 have b1:=(AtB w).alloc (ArR _) o1
 have b2:=b1.alloc b1.size o2
 have hS2:=hS.below b2
 have hO2:OwnS w0.heap.size ((w.alloc o1).alloc o2) B d st:=aA hO b2
 have e1:OwnS w0.heap.size w8 (some ⟨g1,0,none⟩) cap1 (st++[x]):=by
  unfold OwnS
  rw[ArV,aE.all_append]
  exact hown
 have s2:=ArS hS2.1.size (ArR _)
 rcases hat with ⟨hv,hg⟩|⟨hv,hg⟩
 ·obtain⟨hB,hd⟩:B=some ⟨g1,0,none⟩/\d=cap1:=by cases hv;exact⟨rfl,rfl⟩
  subst hB
  subst hd
  have hgb:w0.heap.size<=g1:=(own_lt hO g1 rfl).1
  refine⟨hS2.grown hg (hS2.1.grown hg s2 λk hk=>by cases hk;exact hgb) ?_,e1,hof,hkeep,((Below.tame b2 _ _).seeks _).trans (mL hg),.inl ⟨rfl,rfl⟩⟩
  intro k hk
  obtain rfl:g1=k:=AsO hk
  refine⟨?_,λm hm e=>hof m hm g1 e rfl⟩
  rcases hO2.2 with ⟨h,-⟩|⟨g',cap',cur',hv',-,hg',-⟩
  ·cases h
  cases hv'
  exact⟨cur',hg'⟩
 have hz:w.heap.size<=g1:=by rw[hv];exact b2.size
 refine⟨hS2.grown hg (hS2.1.grown hg s2 λk hk=>by cases hk) (λk hk=>by cases hk),e1,λm hm k hk hb=>?_,hkeep,((Below.tame b2 _ _).seeks _).trans ⟨hg.os,hg.tape,hg.output,hg.size,λbb cs t fr hb _ _ _=>by rw[hg.block bb (ArL hb).1 (by simp)];exact hb⟩,.inr hz⟩
 have h1:=(own_lt (hS.2.2.2.2 m hm) k hk).2
 obtain rfl:g1=k:=AsO hb
 omega
theorem AiG {w w8 w9:World} {B:Option Addr} {d:Nat} {st:List Wk.Stp} {x:Wk.Stp} {g1 cap1:Nat} (hO:OwnS w0.heap.size w B d st) (hO8:OwnS w0.heap.size w8 B d st) (hO9:OwnS w0.heap.size w9 (some ⟨g1,0,none⟩) cap1 (st++[x])) (hp:mM (blk B) w w8) (hq:mM (some g1) w8 w9) (hat:(B=some ⟨g1,0,none⟩/\d=cap1)∨w.heap.size<=g1):OwnS w0.heap.size w9 B d st/\mM (blk B) w w9:=by
 constructor
 ·rcases hat with ⟨rfl,rfl⟩|hz
  ·have:=hO9
   unfold OwnS at this
   rw[ArV,aE.all_append] at this
   exact pS this (aE.all_len st) Nat.zero_lt_one
  refine iD hO8 hq (by decide) (by decide) λk hk e=>?_
  obtain rfl:g1=k:=AsO e
  have:=(own_lt hO g1 (by rw[iC] at hk;exact hk)).2
  omega
 refine Seeks.new hp hq λk hk=>?_
 obtain rfl:g1=k:=AsO hk
 rcases hat with ⟨rfl,-⟩|hz
 ·exact .inr rfl
 exact .inl hz
theorem zJ {wa:World} (hI:PlanIn w0 p A A') (hsl:p.secs.length<=24) (k:Nat) (IH:AdB p A c A' c' b g w0 k) (s f:Int) (st:List Wk.Stp) (B:Option Addr) (d n:Nat) (M:List WayM) (hh:SeekAt p A c A' c' b g w0 wa v n M) (ho:OwnS w0.heap.size wa B d st) (hof:Offside B M) (hl:st.length+(k+1)=16) (ht:n+2 ^ (k+1+1)<=1000000) (hw:M.length+2 ^ (k+1)<=1000000) (hT:Cr.turns b s st ⟨n,false,M.map WayM.way⟩=false) :
 Calls Tryz.prog 63 #[.pointer (some ⟨g,0,none⟩),.slice B st.length d,.int .i64 s,.int .i64 f] wa (cE p A c A' c' b g w0 ((Wk.outs p s f).foldl (Cr.gone p (Cr.enter p b k) s st) (Cr.came ⟨n,false,M.map WayM.way⟩)) B d st M wa):=by
 obtain⟨hm,hlo,hs,hwi⟩:=sO hT
 obtain⟨⟨p0,p1,p2,p3,p4,p5,p6,p7,p8⟩,⟨f7,f8⟩,gg⟩:=row9 hh.2.2.1
 have q1:IntKind.i64.wrap ((n:Int)+1)=(n:Int)+1:=IntWalk.i64_in _ (by have:1<=2 ^ (k+1+1):=Nat.one_le_two_pow;omega)
 have HC:=hid (hh.came (t:=(n:Int)+1) (k:=n+1) rfl)
 have OC:=hid (aX ho HC.out.2 (by decide) (by decide))
 have D:decide (400<(n:Int)+1)=false:=aB (by simp only at hm;omega)
 have E:(s == b)=false:=by rw[ArU];exact hs
 have D16:((st.length:Int) == 16)=false:=by rw[ArU];omega
 have CW:=hid (λW (hr:OwnS w0.heap.size W B d st)=>bG B d st s W hr.row (by omega))
 rw[hwi] at CW
 have CO:=hid (λW (hb:Below w0.heap.size w0 W)=>jH p A c A' c' s f W (hI.below hb) hsl)
 have HIH:=hid IH
 have HI:=hid hI
 have HF:=hid hof
 have HL:=hid hl
 have hlo':=Wk.outs_len p s f
 have HSX:=hid (λ(x:Wk.Stp) (hx:x∈Wk.outs p s f)=>Cr.outs_sec hx)
 have HZ0:=hid (own_lt ho)
 have HB0:=hid (show (Cr.came ⟨n,false,M.map WayM.way⟩).tries+2*(2 ^ (k+1)-1)+1<=1000000/\(Cr.came ⟨n,false,M.map WayM.way⟩).out.length+2*2 ^ k<=1000000 from by
  have e1:2 ^ (k+1+1)=2*2 ^ (k+1):=by rw[Nat.pow_succ,Nat.mul_comm]
  have e2:2 ^ (k+1)=2*2 ^ k:=by rw[Nat.pow_succ,Nat.mul_comm]
  have e3:1<=2 ^ (k+1):=Nat.one_le_two_pow
  rw[Cr.came_tries,Cr.came_out,AsH]
  simp only
  omega)
 have HH1:=hid (show (Cr.came ⟨n,false,M.map WayM.way⟩).long=false/\M.map WayM.way=(Cr.came ⟨n,false,M.map WayM.way⟩).out/\(Cr.came ⟨n,false,M.map WayM.way⟩).tries=n+1 from⟨hlo,rfl,rfl⟩)
 clear hT hm hlo hs hwi ho hh hof hI IH hl ht hw
 generalize Wk.outs p s f=L at CO hlo' HSX ⊢
 generalize Cr.came ⟨n,false,M.map WayM.way⟩=h1 at HB0 HH1 ⊢
 obtain⟨i0,hi,hz0,hz1,hz2⟩:=info_parts fR
 go_enter Tryz.func63,Tryz.ntmps63
 go_wp2_with fail
 refine(CW.out _ OC.out).mono ?_;rintro e w1 ⟨rfl,hb1⟩
 have T1:=hid (HC.out.2.trans (Below.tame hb1 _ _))
 have H1:=hid (HC.out.1.below hb1)
 have O1:=hid (aA OC.out hb1)
 clear hb1 p0 p1 p2 p3 p4 p5 p6 p7 p8 f7 f8 gg HC OC CW
 obtain⟨⟨p0,p1,p2,p3,p4,p5,-,-,-⟩,-,gg⟩:=row9 H1.out.2.2.1
 go_wp2_with fail
 refine(CO.out _ H1.out.1).mono ?_;rintro e w5 ⟨Al,dl,rfl,hol,hb5⟩
 have T5:=hid (T1.out.trans (Below.tame hb5 _ _))
 have H5:=hid (H1.out.below hb5)
 have O5:=hid (show OwnS w0.heap.size w5 B d st from aA O1.out hb5)
 have OL:=hid hol
 have HLB:=hid (show ∀ j,blk Al=some j->blk B≠some j from λj hj hb=>by
  have h1:=(own_lt hol j hj).1
  have h2:=(HZ0.out j hb).2
  have h3:=T1.out.size
  omega)
 clear hol hb5 p0 p1 p2 p3 p4 p5 gg D E D16 q1 CO T1 H1 O1
 go_wp2_with fail
 go_loopw [45] (λi w'=>∃ j:Nat,j<=L.length/\i=.int .i64 j/\ApD p A c A' c' b g w0 B d st M w5 ((L.take j).foldl (Cr.gone p (Cr.enter p b k) s st) h1) w') (λi _=>L.length-(intOf i).toNat)
 case atStart=>exact⟨0,AsD _,rfl,HH1.out.1,v,[],by rw[AsM];exact HH1.out.2.1,by rw[AsM];have:=H5.out;rw[<-HH1.out.2.2] at this;exact this,Later.nil _,O5.out,Seeks.refl _ _ _ _⟩
 case round =>
  obtain⟨j,hj,rfl,hlg,v',MN,hmn,hS,hLt,hO,hP⟩:=hrel
  by_cases hlt:j<L.length
  ·have hfl:(L.take (j+1)).foldl (Cr.gone p (Cr.enter p b k) s st) h1=Cr.gone p (Cr.enter p b k) s st ((L.take j).foldl (Cr.gone p (Cr.enter p b k) s st) h1) L[j]:=by
    rw[List.take_add_one,ArN hlt,List.foldl_append];rfl
   have OLr:=iD OL.out hP (by decide) (by decide) (λk hk=>HLB.out k (by rw[iC] at hk;exact hk))
   obtain⟨bl,ol,rfl,hbl,on⟩:=(OwnS.row OLr).at hlt
   obtain⟨a0,a1,a2⟩:=bL on
   rw[show j*aE.m=j*3 from rfl] at a0 a1 a2
   have hbn:=Cr.fold_le p (Cr.enter p b k) s st (2 ^ (k+1)-1) (2 ^ k) Nat.one_le_two_pow (λs f st h=>Cr.enter_le p b k s f st h) (L.take j) h1
   have HBN:=hid (show ((L.take j).foldl (Cr.gone p (Cr.enter p b k) s st) h1).tries+2 ^ (k+1)<=1000000/\(M++MN).length+2 ^ k<=1000000 from by
    have x1:=HB0.out
    have ht1:(L.take j).length<=1:=by rw[AsU];omega
    have y1:=Nat.mul_le_mul_right (2 ^ (k+1)-1) ht1
    have y2:=Nat.mul_le_mul_right (2 ^ k) ht1
    have y3:1<=2 ^ (k+1):=Nat.one_le_two_pow
    have y4:(M++MN).length=((L.take j).foldl (Cr.gone p (Cr.enter p b k) s st) h1).out.length:=by rw[<-hmn,AsH]
    omega)
   have hxs:=HSX.out L[j] (List.getElem_mem hlt)
   have HFL:=hid hfl
   have HLG:=hid (λh=>AiE (p:=p) (b:=b) (k:=k) (s:=s) (st:=st) (L:=L) (j:=j+1) (h:=h1) h)
   clear hbn OLr hfl on
   generalize hhf:(L.take j).foldl (Cr.gone p (Cr.enter p b k) s st) h1=hf at hlg hmn hS HFL HBN
   obtain⟨tr,lg,out⟩:=hf
   simp only at hlg hmn hS HBN
   subst hlg
   subst hmn
   clear hhf
   generalize L[j]=x at a0 a1 a2 HFL hxs
   have HXS:=hid hxs
   have hof:=HF.out.append (hLt.aside (λk hk=>AsE (HZ0.out k hk).2 T5.out.size))
   have HS:=hid hS
   have HLt:=hid hLt
   have HOr:=hid hO
   have HP:=hid hP
   have HOF:=hid hof
   have OW:=hid (World.ownsRow.alloc (World.ownsRow.alloc hO (.cells #[.int .i64 x.s,.int .i64 x.f,.int .i64 x.t] 129)) (.cells #[.int .i64 x.s,.int .i64 x.f,.int .i64 x.t] 129))
   have NW:=hid (AqD (wr.alloc (.cells #[.int .i64 x.s,.int .i64 x.f,.int .i64 x.t] 129)) x (g:=wr.heap.size+1) (by simp))
   have hst:st.length<=15:=by have:=HL.out;omega
   have hws:=hS.1.size
   clear hS hLt hO hP hof hxs
   go_wp2_with (at_builtin;refine dP aE _ rfl (.tmp 50) (.tmp 52) 86 rfl w0.heap.size 129 i0 _ 24 Tryz.underlying86 hi hz0 hz1 hz2 rfl (.slice B st.length d) st.length (aE.all st) rfl OW.out (some ⟨wr.heap.size+1,0,none⟩) 1 1 [x] rfl (by decide) rfl NW.out (by omega) (by omega) (by simp;omega) ?_;intro g1 cap1 w8 hown1 hkeep1 hat1)
   have GM:=hid (AiF HS.out HOr.out HOF.out hown1 hkeep1 hat1)
   have CL:=hid (AdC HI.out hsl k HIH.out s st x HXS.out (some ⟨g1,0,none⟩) cap1 tr (M++MN) GM.out.1 GM.out.2.1 GM.out.2.2.1 HL.out HBN.out.1 HBN.out.2 (st.length+1) rfl)
   clear hown1 hkeep1 hat1 OW NW
   refine CL.out.mono ?_;rintro e w9 (⟨hlo,rfl,hB5⟩|⟨hlo,rfl,v2,N2,hm2,hS2,hL2,hO2,hP2⟩)
   ·have R:=hid (AsG hlo hB5)
    clear hlo hB5
    go_wp2
    go_ret
    exact .inl ⟨HLG.out (by rw[HFL.out];exact R.out.1),rfl,R.out.2⟩
   have GB:=hid (AiG HOr.out GM.out.2.2.2.1 hO2 GM.out.2.2.2.2.1 hP2 GM.out.2.2.2.2.2)
   have R:=hid (show ApD p A c A' c' b g w0 B d st M w5 ((L.take (j+1)).foldl (Cr.gone p (Cr.enter p b k) s st) h1) w9 from by
    rw[HFL.out]
    exact⟨hlo,v2,MN++N2,by rw[<-List.append_assoc];exact hm2,by rw[<-List.append_assoc];exact hS2,HLt.out.append (hL2.mono (ArS HP.out.size GM.out.2.2.2.2.1.size)),GB.out.1,HP.out.trans GB.out.2⟩)
   clear hlo hm2 hS2 hL2 hO2 hP2
   go_wp2
   go_roundw
   case rel=>exact⟨j+1,by omega,by go_num,R.out⟩
   case measure=>simp[intOf];omega
  obtain rfl:j=L.length:=by omega
  rw[List.take_length] at hlg hmn hS
  have R:=hid (show cE p A c A' c' b g w0 (L.foldl (Cr.gone p (Cr.enter p b k) s st) h1) B d st M wa (.returned (.bool true)) wr from .inr ⟨hlg,rfl,v',MN,hmn,hS,hLt.mono T5.out.size,hO,(T5.out.seeks _).trans hP⟩)
  clear hlg hmn hS hLt hO hP
  go_wp2
  go_ret
  exact R.out
end
open Go.RowKit
theorem pY {p:Pl.Plan} {A:Option Addr} {c:Nat} {A':Option Addr} {c':Nat} {b:Int} {g:Nat} {w0:World} (hI:PlanIn w0 p A A') (hsl:p.secs.length<=24):∀ k:Nat,AdB p A c A' c' b g w0 k
 | 0 => λs f st B d v n M wr hh ho hof hl ht hw=>by
   cases hT:Cr.turns b s st ⟨n,false,M.map WayM.way⟩ with
   | true =>
     rw[mP 0 hT]
     exact mQ s f st B d n M hh ho (by omega) (by omega) hT
   | false =>
     rw[zG hT]
     exact zI s f st B d n M hh ho (by omega) (by omega) hT
 | k + 1=>λs f st B d v n M wr hh ho hof hl ht hw=>by
   cases hT:Cr.turns b s st ⟨n,false,M.map WayM.way⟩ with
   | true =>
     rw[mP (k+1) hT]
     exact mQ s f st B d n M hh ho (by omega) (ArS (Nat.le_add_right _ _) ht) hT
   | false =>
     rw[zH k hT]
     exact zJ hI hsl k (pY hI hsl k) s f st B d n M hh ho hof hl ht hw hT
theorem SeekAt.ways {p:Pl.Plan} {A:Option Addr} {c:Nat} {A':Option Addr} {c':Nat} {b:Int} {g:Nat} {w0 wr:World} {v:Value} {n:Nat} {M:List WayM} (hh:SeekAt p A c A' c' b g w0 wr v n M):∃ B d,v=.slice B (M.map WayM.way).length d/\WaysT wr B (M.map WayM.way):=by
 obtain⟨-,-,-,h5,h6⟩:=hh
 obtain⟨-,B,d,rfl,-,hR⟩:=TRow.of_own h5
 exact⟨B,d,by rw[AsH],M,rfl,hR,λm hm=>by
  obtain⟨-,B',d',hv,-,hS⟩:=TRow.of_own (E:=aE) (h6 m hm)
  cases hv
  exact⟨hS,(h6 m hm).cap⟩⟩
abbrev zK (g:Pl.Sig):Obj:=.cells #[.string (txt g.name),.int .i64 g.sec,.int .i64 g.en] 58
theorem AiH (w:World) (a b:Obj):((w.alloc a).alloc b).heap[w.heap.size]?=some a/\((w.alloc a).alloc b).heap[w.heap.size+1]?=some b/\Below w.heap.size w ((w.alloc a).alloc b):=by
 have s1:(w.alloc a).heap.size=w.heap.size+1:=by simp
 refine⟨?_,?_,((Below.refl _ _).alloc (ArR _) _).alloc (by omega) _⟩
 ·rw[heap_alloc_old _ _ (by omega)];exact AsW _ _
 rw[<-s1];exact AsW _ _
theorem AqE (p:Pl.Plan) (A:Option Addr) (c:Nat) (A':Option Addr) (c':Nat) (i:Int) (w:World) (h:PlanIn w p A A') (hsl:p.secs.length<=24) (_hg:p.sigs.length<=12) :
 Calls Tryz.prog 31 #[aR p A c A' c',.int .i64 i] w (fI (Cr.of p i) w):=by
 --[
 have R0:=AsW w (aD p A c A' c')
 have XX:=(AtB w).alloc (ArR _) (aD p A c A' c')
 have X0:=hid XX
 obtain⟨⟨p0,p1,p2,p3,p4,p5⟩,-,gp⟩:=row6 R0
 have HI:=hid (h.below XX)
 clear R0 XX h
 rcases Cr.sigAt_ways p i with ⟨hs,hn⟩|⟨k,rfl,⟨hk,hn⟩|⟨x,hx,hn⟩⟩
 ·have D:decide (i<0)=true:=aC hs
  rw[Cr.of_none hn]
  clear hs hn
  go_enter Tryz.func31,Tryz.ntmps31
  go_wp2_with fail
  refine bodyPost_ret ?_ rfl ⟨none,0,rfl,WaysT.nil _ _,X0.out⟩
  simp[results,Tryz.results31,go_sem]
 ·have D0:decide ((k:Int)<0)=false:=aB (by omega)
  have D1:decide ((p.sigs.length:Int)<=(k:Int))=true:=aC (by omega)
  rw[Cr.of_none hn]
  clear hn
  go_enter Tryz.func31,Tryz.ntmps31
  go_wp2_with fail
  refine bodyPost_ret ?_ rfl ⟨none,0,rfl,WaysT.nil _ _,X0.out⟩
  simp[results,Tryz.results31,go_sem]
 ·have hlt:k<p.sigs.length:=(ArM hx).1
  have D0:decide ((k:Int)<0)=false:=aB (by omega)
  have D1:decide ((p.sigs.length:Int)<=(k:Int))=false:=aB (by omega)
  have N1:¬ p.sigs.length<=k:=by omega
  rw[Cr.of_some hn]
  obtain⟨b,o,rfl,hb,on⟩:=HI.out.2.at hlt
  rw[(ArM hx).2] at on
  obtain⟨a0,a1,a2⟩:=cF on
  rw[show k*bD.m=k*3 from rfl] at a0 a1 a2
  clear hn on hx
  obtain⟨xn,xs,xe⟩:=x
  simp only at a0 a1 a2
  obtain⟨q0,q1,X2⟩:=AiH w (aD p A c (some ⟨b,o,none⟩) c') (zK ⟨xn,xs,xe⟩)
  have HI2:=hid (HI.out.below ((Below.refl _ _).alloc (ArR _) (zK ⟨xn,xs,xe⟩)))
  have HX2:=hid X2
  have HR:=hid (AsG q0 q1)
  obtain⟨⟨k0,k1,k2⟩,-,gk⟩:=row3 q1
  obtain⟨⟨t0,t1,t2,t3,t4,t5⟩,-,gt⟩:=row6 q0
  have CN:=hid (dC p A c (some ⟨b,o,none⟩) c' xs xe _ HI2.out hsl)
  generalize hw2:(w.alloc (aD p A c (some ⟨b,o,none⟩) c')).alloc (zK ⟨xn,xs,xe⟩)=w2 at HI2 HX2 HR CN
  generalize hnx:Wk.next p xs xe=nx at CN
  have HNX:=hid hnx
  obtain⟨n1,n2,n3⟩:=nx
  clear hnx X2 q0 q1
  have KR:=hid (λW (hW:Below w2.heap.size w2 W)=>show (W.cell? ⟨w.heap.size,0,none⟩=some (.int .i64 p.ov)/\W.cell? ⟨w.heap.size,1,none⟩=some (.int .i64 p.ap)/\W.cell? ⟨w.heap.size,2,none⟩=some (.int .i64 p.se)/\W.cell? ⟨w.heap.size,3,none⟩=some (.int .i64 p.ho)/\W.cell? ⟨w.heap.size,4,none⟩=some (.slice A p.secs.length c)/\W.cell? ⟨w.heap.size,5,none⟩=some (.slice (some ⟨b,o,none⟩) p.sigs.length c'))/\W.cell? ⟨w.heap.size+1,1,none⟩=some (.int .i64 xs) from
   ⟨(row6 ((hW.block _ (ArL HR.out.1).1).trans HR.out.1)).1,(row3 ((hW.block _ (ArL HR.out.2).1).trans HR.out.2)).1.2.1⟩)
  subst hw2
  cases n3 with
  | false =>
    have P:=hid (show Cr.ofSig p ⟨xn,xs,xe⟩=([],0) from by
     have:Cr.hunt p ⟨xn,xs,xe⟩=Cr.hunt0:=by unfold Cr.hunt;simp only;rw[HNX.out];rfl
     unfold Cr.ofSig
     rw[this];rfl)
    rw[P.out]
    go_enter Tryz.func31,Tryz.ntmps31
    go_wp2_with fail
    refine CN.out.mono ?_;rintro e w5 ⟨rfl,hb5⟩
    have HB5:=hid (HX2.out.trans (hb5.mono HX2.out.size))
    clear p0 p1 p2 p3 p4 p5 gp k0 k1 k2 gk t0 t1 t2 t3 t4 t5 gt hb5
    go_wp2_with fail
    refine bodyPost_ret (v:=.tuple #[.slice none 0 0,.int .i64 0]) ?_ rfl ⟨none,0,rfl,WaysT.nil _ _,HB5.out⟩
    simp[results,Tryz.results31,go_sem]
  | true =>
    have P:=hid (show Cr.hunt p ⟨xn,xs,xe⟩=Cr.enter p xs 16 n1 n2 [] Cr.hunt0 from by unfold Cr.hunt;simp only;rw[HNX.out];rfl)
    have HO:=hid (show Cr.ofSig p ⟨xn,xs,xe⟩=if (Cr.enter p xs 16 n1 n2 [] Cr.hunt0).long then([],10) else((Cr.enter p xs 16 n1 n2 [] Cr.hunt0).out,0) from by unfold Cr.ofSig;rw[P.out])
    rw[HO.out]
    have CE:=hid (λ(w5:World) (hb5:Below ((w.alloc (aD p A c (some ⟨b,o,none⟩) c')).alloc (zK ⟨xn,xs,xe⟩)).heap.size ((w.alloc (aD p A c (some ⟨b,o,none⟩) c')).alloc (zK ⟨xn,xs,xe⟩)) w5)=>show Calls Tryz.prog 63 #[.pointer (some ⟨w5.heap.size,0,none⟩),.slice none 0 0,.int .i64 n1,.int .i64 n2] (w5.alloc (yX p A c (some ⟨b,o,none⟩) c' xs 0 (.slice none 0 0))) (cE p A c (some ⟨b,o,none⟩) c' xs w5.heap.size w5 (Cr.enter p xs 16 n1 n2 [] Cr.hunt0) none 0 [] [] (w5.alloc (yX p A c (some ⟨b,o,none⟩) c' xs 0 (.slice none 0 0)))) from
     pY (c:=c) (c':=c') (b:=xs) (HI2.out.below hb5) hsl 16 n1 n2 [] none 0 (.slice none 0 0) 0 [] _ ⟨(AtB w5).alloc (ArR _) _,ArR _,AsW _ _,World.ownsRow_nil _ _ _ _,λm hm=>(by cases hm)⟩ (World.ownsRow_nil _ _ _ _) (λm hm=>(by cases hm)) rfl (by decide) (by decide))
    generalize Cr.enter p xs 16 n1 n2 [] Cr.hunt0=hf at CE ⊢
    obtain⟨tr,lg,out⟩:=hf
    cases lg with
    | true =>
      show Calls Tryz.prog 31 _ w (fI ([],10) w)
      go_enter Tryz.func31,Tryz.ntmps31
      go_wp2_with fail
      refine CN.out.mono ?_;rintro e w5 ⟨rfl,hb5⟩
      have HB5:=hid (HX2.out.trans (hb5.mono HX2.out.size))
      obtain⟨⟨r0,r1,r2,r3,r4,r5⟩,j1⟩:=KR.out _ hb5
      have CF:=hid (CE.out _ hb5)
      clear p0 p1 p2 p3 p4 p5 gp k0 k1 k2 gk t0 t1 t2 t3 t4 t5 gt hb5
      go_wp2_with fail
      refine CF.out.mono ?_;rintro e w6 (⟨-,rfl,hB6⟩|⟨hlo,-⟩)
      ·have B6:=hid (HB5.out.trans (hB6.mono HB5.out.size))
       clear hB6
       go_wp2_with fail
       refine bodyPost_ret (v:=.tuple #[.slice none 0 0,.int .i64 10]) ?_ rfl ⟨none,0,rfl,WaysT.nil _ _,B6.out⟩
       simp[results,Tryz.results31,go_sem]
      cases hlo
    | false =>
      show Calls Tryz.prog 31 _ w (fI (out,0) w)
      go_enter Tryz.func31,Tryz.ntmps31
      go_wp2_with fail
      refine CN.out.mono ?_;rintro e w5 ⟨rfl,hb5⟩
      have HB5:=hid (HX2.out.trans (hb5.mono HX2.out.size))
      obtain⟨⟨r0,r1,r2,r3,r4,r5⟩,j1⟩:=KR.out _ hb5
      have CF:=hid (CE.out _ hb5)
      clear p0 p1 p2 p3 p4 p5 gp k0 k1 k2 gk t0 t1 t2 t3 t4 t5 gt hb5
      go_wp2_with fail
      refine CF.out.mono ?_;rintro e w6 (⟨hlo,-⟩|⟨-,rfl,v,N,hm,hS,-⟩)
      ·cases hlo
      simp only[List.nil_append] at hm hS
      subst hm
      obtain⟨B,d,rfl,hW⟩:=hS.ways
      have HW:=hid hW
      have B6:=hid (HB5.out.trans (hS.1.mono HB5.out.size))
      obtain⟨⟨y0,y1,y2,y3,y4,y5,y6,y7,y8⟩,-,gg⟩:=row9 hS.2.2.1
      clear hS hW
      go_wp2_with fail
      refine bodyPost_ret (v:=.tuple #[.slice B (N.map WayM.way).length d,.int .i64 0]) ?_ rfl ⟨B,d,rfl,HW.out,B6.out⟩
      simp[results,Tryz.results31,go_sem]
 --]
end Go.Proofs.YtjofpclmbjpgjaaGreat
