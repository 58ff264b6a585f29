/- Lemmas. -/
import Derived.Test.YtjofpclmbjpgjaaGreatMk33
set_option maxHeartbeats 16000000
set_option maxRecDepth 100000
namespace Go.Proofs.YtjofpclmbjpgjaaGreat
open Lib (hid)
open Go.RowKit
theorem AmV:(Tryz.prog.info? 88).map (λi=>(i.zero,i.size,i.bytes))=some (some (.agg #[.slice none 0 0,.int .i64 0]),2,32):=by kernel_rfl
def AdB (p:Pl.Plan) (A:Option Addr) (c:Nat) (A':Option Addr) (c':Nat) (b:Int) (g:Nat) (w0:World) (k:Nat):Prop :=
 ∀ (s f:Int) (st:List Wk.Stp) (B:Option Addr) (d:Nat) (v:Value) (n:Nat) (M:List WayM) (wr:World),SeekAt p A c A' c' b g w0 wr v n M->OwnS w0.heap.size wr B d st->Offside B M->st.length+k=16->n+2 ^ (k+1)<=1000000->M.length+2 ^ k<=1000000 ->
   Calls Tryz.prog 63 #[.pointer (some ⟨g,0,none⟩),.slice B st.length d,.int .i64 s,.int .i64 f] wr (cE p A c A' c' b g w0 (Cr.enter p b k s f st ⟨n,false,M.map WayM.way⟩) B d st M wr)
section
variable {p : Pl.Plan} {A : Option Addr} {c : Nat} {A' : Option Addr} {c' : Nat} {b : Int} {g : Nat} {w0 wr : World} {v : Value}
theorem AdC (hI:PlanIn w0 p A A') (hsl:p.secs.length<=24) (k:Nat) (IH:AdB p A c A' c' b g w0 k) (s:Int) (st:List Wk.Stp) (x:Wk.Stp) (hx:x.s=s) (B:Option Addr) (d:Nat) (n:Nat) (M:List WayM) (hh:SeekAt p A c A' c' b g w0 wr v n M) (ho:OwnS w0.heap.size wr B d (st++[x])) (hof:Offside B M) (hl:st.length+(k+1)=16) (ht:n+2 ^ (k+1)<=1000000) (hw:M.length+2 ^ k<=1000000) (N:Nat) (hN:N=st.length+1) :
 Calls Tryz.prog 100 #[.pointer (some ⟨g,0,none⟩),.slice B N d] wr (cE p A c A' c' b g w0 (Cr.gone p (Cr.enter p b k) s st ⟨n,false,M.map WayM.way⟩ x) B d (st++[x]) M wr):=by
 have hlen:(st++[x]).length=N:=by rw[ArV,hN];rfl
 have ho':wr.ownsRow w0.heap.size 129 3 (.slice B N d) N (aE.all (st++[x])):=by have:=ho;unfold OwnS at this;rwa [hlen] at this
 obtain⟨bb,cp,hB,-,-⟩:=ho'.form (by omega)
 obtain rfl:B=some ⟨bb,0,none⟩:=by cases hB;rfl
 have on:=Lies.own_on (E:=aE) (g:=bb) ho' (k:=st.length) (y:=x) (by rw[List.getElem?_append_right (ArR _),Nat.sub_self];rfl)
 obtain⟨a0,a1,a2⟩:=bL on
 rw[show st.length*aE.m=st.length*3 from rfl] at a0 a1 a2
 have hbb:=(own_lt ho bb rfl).2
 obtain⟨⟨p0,p1,p2,p3,p4,p5,-,-,-⟩,-,gg⟩:=row9 hh.2.2.1
 have q1:IntKind.i64.wrap ((N:Int)-1)=(st.length:Int):=by rw[IntWalk.i64_in _ (by omega)];omega
 have HH:=hid hh
 have HO:=hid ho
 have HF:=hid hof
 have HI:=hid hI
 have HIH:=hid IH
 have HL:=hid hl
 have HT:=hid ht
 have HW:=hid hw
 have HN:=hid hlen
 have l1:st.length<N:=by omega
 have l2:(st.length:Int)<(N:Int):=by omega
 have l3:decide ((st.length:Int)<(N:Int))=true:=aC l2
 subst hx
 clear hh ho ho' hof hI IH hl ht hw hlen hN on hB
 have X1:=(AtB wr).alloc (ArR _) (.cells #[.int .i64 x.s,.int .i64 x.f,.int .i64 x.t] 129)
 have HX:=hid X1
 have RX:=hid (AsW wr (.cells #[.int .i64 x.s,.int .i64 x.f,.int .i64 x.t] 129))
 have KS:=hid (λW (hb:Below (wr.alloc (.cells #[.int .i64 x.s,.int .i64 x.f,.int .i64 x.t] 129)).heap.size (wr.alloc (.cells #[.int .i64 x.s,.int .i64 x.f,.int .i64 x.t] 129)) W)=>show (W.cell? ⟨g,0,none⟩=some (.int .i64 p.ov)/\W.cell? ⟨g,1,none⟩=some (.int .i64 p.ap)/\W.cell? ⟨g,2,none⟩=some (.int .i64 p.se)/\W.cell? ⟨g,3,none⟩=some (.int .i64 p.ho)/\W.cell? ⟨g,4,none⟩=some (.slice A p.secs.length c)/\W.cell? ⟨g,5,none⟩=some (.slice A' p.sigs.length c'))/\W.cell? ⟨wr.heap.size,0,none⟩=some (.int .i64 x.s)/\W.cell? ⟨wr.heap.size,2,none⟩=some (.int .i64 x.t) from by
  have h3:=((hb.block _ (ArL ((HX.out.block _ gg).trans HH.out.2.2.1)).1).trans (HX.out.block _ gg)).trans HH.out.2.2.1
  obtain⟨⟨r0,r1,r2,r3,r4,r5,-,-,-⟩,-,-⟩:=row9 h3
  obtain⟨⟨t0,-,t2⟩,-,-⟩:=row3 ((hb.block _ (by simp)).trans RX.out)
  exact⟨⟨r0,r1,r2,r3,r4,r5⟩,t0,t2⟩)
 have CS:=hid (λW (hb:Below (wr.alloc (.cells #[.int .i64 x.s,.int .i64 x.f,.int .i64 x.t] 129)).heap.size (wr.alloc (.cells #[.int .i64 x.s,.int .i64 x.f,.int .i64 x.t] 129)) W)=>Made.of (w:=wr.alloc (.cells #[.int .i64 x.s,.int .i64 x.f,.int .i64 x.t] 129)) hb (jZ p A c A' c' x.s x.t W (HI.out.below ((HH.out.1.trans (HX.out.mono HH.out.1.size)).trans (hb.mono (ArS HH.out.1.size HX.out.size)))) hsl))
 have CN:=hid (λW (hb:Below (wr.alloc (.cells #[.int .i64 x.s,.int .i64 x.f,.int .i64 x.t] 129)).heap.size (wr.alloc (.cells #[.int .i64 x.s,.int .i64 x.f,.int .i64 x.t] 129)) W)=>Made.of (w:=wr.alloc (.cells #[.int .i64 x.s,.int .i64 x.f,.int .i64 x.t] 129)) hb (dC p A c A' c' x.s x.t W (HI.out.below ((HH.out.1.trans (HX.out.mono HH.out.1.size)).trans (hb.mono (ArS HH.out.1.size HX.out.size)))) hsl))
 go_enter Tryz.func100,Tryz.ntmps100
 go_upto_region 2 with fail
 generalize wr.alloc (.cells #[.int .i64 x.s,.int .i64 x.f,.int .i64 x.t] 129)=w2 at HX KS CS CN ⊢
 clear X1 RX a0 a1 a2 q1 l1 l2 l3 p0 p1 p2 p3 p4 p5 hbb
 have B2:=hid (AtB w2)
 generalize hsg:Wk.signal p x.s x.t=sg at CS
 have HSG:=hid hsg
 clear hsg
 generalize hnx:Wk.next p x.s x.t=nx at CN
 have HNX:=hid hnx
 obtain⟨n1,n2,n3⟩:=nx
 clear hnx
 go_cut [6] from 10 to 60 (λs6 w'=>s6=.int .i64 sg/\Below w2.heap.size w2 w')
 case first =>
  --[
  go_region_held3 (λW=>(W.cell? ⟨g,0,none⟩=some (.int .i64 p.ov)/\W.cell? ⟨g,1,none⟩=some (.int .i64 p.ap)/\W.cell? ⟨g,2,none⟩=some (.int .i64 p.se)/\W.cell? ⟨g,3,none⟩=some (.int .i64 p.ho)/\W.cell? ⟨g,4,none⟩=some (.slice A p.secs.length c)/\W.cell? ⟨g,5,none⟩=some (.slice A' p.sigs.length c'))/\W.cell? ⟨wr.heap.size,0,none⟩=some (.int .i64 x.s)/\W.cell? ⟨wr.heap.size,2,none⟩=some (.int .i64 x.t))
   (first|with_reducible exact KS.out _ B2.out.drew|with_reducible exact KS.out _ hacc)
   (first|(go_at_call 134;(with_reducible refine(CS.out _ B2.out.drew).mono ?_);rintro e w' ⟨rfl,hbl,hacc,hz⟩))
  all_goals go_wp2_with fail
  all_goals go_meet
  all_goals exact⟨rfl,hacc⟩
  --]
 case rest =>
  obtain⟨rfl,hb3⟩:=hcut
  have B3:=hid hb3
  clear hb3 CS
  generalize wc=w3 at B3 ⊢
  go_upto_region 3 with fail
  go_cut [7,8,9] from 10 to 60 (λs7 s8 s9 w'=>(s7=.int .i64 n1/\s8=.int .i64 n2/\s9=.bool n3)/\Below w2.heap.size w2 w')
  case first =>
   --[
   go_region_held3 (λW=>(W.cell? ⟨g,0,none⟩=some (.int .i64 p.ov)/\W.cell? ⟨g,1,none⟩=some (.int .i64 p.ap)/\W.cell? ⟨g,2,none⟩=some (.int .i64 p.se)/\W.cell? ⟨g,3,none⟩=some (.int .i64 p.ho)/\W.cell? ⟨g,4,none⟩=some (.slice A p.secs.length c)/\W.cell? ⟨g,5,none⟩=some (.slice A' p.sigs.length c'))/\W.cell? ⟨wr.heap.size,0,none⟩=some (.int .i64 x.s)/\W.cell? ⟨wr.heap.size,2,none⟩=some (.int .i64 x.t))
    (first|with_reducible exact KS.out _ B3.out.drew|with_reducible exact KS.out _ hacc)
    (first|(go_at_call 62;(with_reducible refine(CN.out _ B3.out.drew).mono ?_);rintro e w' ⟨rfl,hbl,hacc,hz⟩))
   all_goals go_wp2_with fail
   all_goals go_meet
   all_goals exact⟨⟨rfl,rfl,rfl⟩,hacc⟩
   --]
  case rest =>
   obtain⟨⟨rfl,rfl,rfl⟩,hb4⟩:=hcut
   have hb:=HX.out.trans (hb4.mono HX.out.size)
   have HZ:=hid hb.size
   have HH4:=hid (HH.out.below hb)
   have HO4:=hid (show OwnS w0.heap.size wc _ d _ from aA HO.out hb)
   have HS4:=hid (show mM (some bb) wr wc from(Below.tame hb _ _).seeks _)
   clear hb hb4 B3 KS CN HX HH HO B2 gg
   generalize wc=w4 at HZ HH4 HO4 HS4 ⊢
   --[
   cases hls:Cr.lasts p x.s x with
   | false =>
     obtain⟨h0,h1'⟩:=Cr.lasts_false hls
     rw[HSG.out] at h0
     rw[HNX.out] at h1'
     have D:decide (sg<0)=true:=aC (by omega)
     obtain rfl:n3=true:=h1'
     have HG:=hid (show Cr.gone p (Cr.enter p b k) x.s st ⟨n,false,M.map WayM.way⟩ x=Cr.enter p b k n1 n2 (st++[x]) ⟨n,false,M.map WayM.way⟩ from by unfold Cr.gone;rw[hls,ArY (by decide),HNX.out])
     have ih:=HIH.out n1 n2 (st++[x]) _ d v n M w4 HH4.out HO4.out HF.out (by have:=HL.out;have:=HN.out;simp only[ArV,List.length_singleton];omega) HT.out HW.out
     rw[HN.out] at ih
     have CI:=hid ih
     clear ih hls h0
     go_wp2_with fail
     refine CI.out.mono ?_;rintro e w5 (⟨hlo,rfl,hB5⟩|⟨hlo,rfl,v2,N2,hm2,hS2,hL2,hO2,hP2⟩)
     ·have R:=hid (AsG hlo hB5)
      clear hlo hB5
      go_wp2
      go_ret
      exact .inl ⟨by rw[HG.out];exact R.out.1,rfl,R.out.2⟩
     have R:=hid (AsG hlo (AsG hm2 (AsG hS2 (AsG (hL2.mono HZ.out) (AsG hO2 (HS4.out.trans hP2))))))
     clear hlo hm2 hS2 hL2 hO2 hP2
     go_wp2
     go_ret
     exact .inr ⟨by rw[HG.out];exact R.out.1,rfl,v2,N2,by rw[HG.out];exact R.out.2.1,by rw[HG.out];exact R.out.2.2.1,R.out.2.2.2⟩
   | true =>
     have hway:0<=sg∨n3=false:=by
      have:=Cr.lasts_true hls
      rwa [HSG.out,HNX.out] at this
     have HG:=hid (show Cr.gone p (Cr.enter p b k) x.s st ⟨n,false,M.map WayM.way⟩ x=⟨n,false,M.map WayM.way++[⟨st++[x],sg⟩]⟩ from by unfold Cr.gone;rw[hls,ArZ rfl,HSG.out])
     clear hls
     obtain⟨i1,ki,kz0,kz1,kz2⟩:=info_parts AmV
     have HML:=hid (show M.length<=1000000 from ArS (Nat.le_add_right _ _) HW.out)
     have CC:=hid (λW (hb:Below w4.heap.size w4 W)=>show Calls Tryz.prog 67 #[.slice (some ⟨bb,0,none⟩) N d] W λe w'=>∃ gc dc,e=.returned (.slice (some ⟨gc,0,none⟩) N dc)/\(SeekAt p A c A' c' b g w0 w' v n M/\OwnS w0.heap.size w' (some ⟨gc,0,none⟩) dc (st++[x])/\wr.heap.size<=gc/\OwnS w0.heap.size w' (some ⟨bb,0,none⟩) d (st++[x])/\mM (some bb) wr w')/\Below w4.heap.size w4 w' from by
      have hc:=pT (some ⟨bb,0,none⟩) d (st++[x]) W ((OwnS.row HO4.out).below rfl hb) (by have:=HN.out;rw[ArV];simp) (by have:=HL.out;rw[ArV,List.length_singleton];omega)
      rw[HN.out] at hc
      refine hc.mono ?_
      rintro e w' ⟨gc,dc,rfl,hown,hbw⟩
      have hb':=hb.trans (hbw.mono hb.size)
      exact⟨gc,dc,rfl,⟨HH4.out.below hb',fC hown (ArS HH4.out.1.size hb.size),ArS HZ.out (ArS hb.size (own_lt hown gc rfl).1),aA HO4.out hb',HS4.out.trans ((Below.tame hb' _ _).seeks _)⟩,hb'⟩)
     have B4:=hid (AtB w4)
     have K8:=hid (λW v' n' M' (h:SeekAt p A c A' c' b g w0 W v' n' M')=>(row9 h.2.2.1).1.2.2.2.2.2.2.2.2)
     have WN:=hid (λ(W:World) (gc dc:Nat)=>Lies.news (o:=0) (E:=dD) (L:=[⟨some ⟨gc,0,none⟩,dc,⟨st++[x],sg⟩⟩]) (λk y hk=>(by
      have hr:=AmM W (some ⟨gc,0,none⟩) dc N sg HN.out
      rcases hr with h|⟨b',o',h1,-,h2⟩
      ·cases h
      cases h1
      exact h2 k y hk)))
     have D1:(0<=sg/\decide (sg<0)=false)∨(decide (sg<0)=true/\n3=false):=by
      by_cases h0:sg<0
      ·exact .inr ⟨aC h0,hway.resolve_left (by omega)⟩
      exact .inl ⟨by omega,aB h0⟩
     clear hway
     have k8:=K8.out _ _ _ _ HH4.out
     have V1:=hid (show M.length+1<=maxLen by have:=HML.out;unfold maxLen;omega)
     have V2:=hid (show (M.length+1)*32<=140737488355328 by have:=HML.out;omega)
     have V3:=hid (show ∀ W:World,Below w4.heap.size w4 W->w0.heap.size<=W.heap.size from λW hb=>ArS HH4.out.1.size hb.size)
     rcases D1 with ⟨-,D⟩|⟨D,rfl⟩
     all_goals
      go_upto_region 6 with fail
      go_region_law (first
       | (refine step_append_lies _ (by rfl) (.tmp 52) (.tmp 57) 83 (by rfl) w0.heap.size 88 i1 _ 2 32 Tryz.underlying83 ki kz0 kz1 kz2 rfl (by decide) v M.length (dD.all M) (by rfl) (World.ownsRow.alloc S5.out.1.2.2.2.1 _) ⟨w5.heap.size,0,none⟩ 1 1 (dD.all [⟨some ⟨gc,0,none⟩,dc,⟨st++[x],sg⟩⟩]) (by rfl) (by rfl) (WN.out w5 gc dc) (dD.all_single _) (by omega) V1.out V2.out (ArS (V3.out _ T5.out) (by simp)) _ rfl ?_
          intro g1 cap1 w10 hown1 hg1 hat1 hlt1
          have WX:=hid (AcS S5.out.1 (m:=⟨some ⟨gc,0,none⟩,dc,⟨st++[x],sg⟩⟩) S5.out.2.1 hown1 hg1)
          obtain⟨⟨-,-,-,-,-,-,-,-,t8⟩,⟨-,u8⟩,gg10⟩:=row9 WX.out.1)
       | (go_simp
          go_at_call 67
          (with_reducible refine(CC.out _ B4.out.drew).mono ?_)
          rintro e w5 ⟨gc,dc,rfl,hS5,hb5⟩
          have S5:=hid hS5
          have T5:=hid hb5
          have j8:=K8.out _ _ _ _ hS5.1
          have i8:=K8.out _ _ _ _ (hS5.1.below ((AtB w5).alloc (ArR _) (.cells #[.slice (some ⟨gc,0,none⟩) N dc,.int .i64 sg] 88)))
          clear hS5 hb5))
     all_goals go_wp2_with fail
     all_goals go_ret
     all_goals exact .inr ⟨by rw[HG.out],rfl,.slice (some ⟨g1,0,none⟩) (M.length+1) cap1,[⟨some ⟨gc,0,none⟩,dc,⟨st++[x],sg⟩⟩],by rw[HG.out,List.map_append];rfl,by rw[HG.out];exact WX.out.2.1,λm hm k hk=>by
      rw[AsS] at hm
      subst hm
      obtain rfl:gc=k:=AsO hk
      exact S5.out.2.2.1,aX S5.out.2.2.2.1 WX.out.2.2 (by decide) (by decide),S5.out.2.2.2.2.trans (WX.out.2.2.seeks _)⟩
   --]
end
end Go.Proofs.YtjofpclmbjpgjaaGreat
