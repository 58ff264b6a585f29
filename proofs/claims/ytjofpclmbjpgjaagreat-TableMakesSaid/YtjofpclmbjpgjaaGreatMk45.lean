/- Lemmas. -/
import Derived.Test.YtjofpclmbjpgjaaGreatMk44
namespace Go.Proofs.YtjofpclmbjpgjaaGreat
open Go.RowKit
theorem mU {l:List UInt8} {p:Pl.Plan} (h:fY l=some p):Tb.Named p:=by
 obtain⟨-,L,hL,-,e⟩:=oY h
 rw[e]
 exact Tb.named_fin hL
namespace Tb
theorem zN {x:Pl.Nm} (h:Fig.nameB x=true):x.length<=1000000:=by
 rw[Fig.nameB,AsF,AsC] at h
 omega
theorem AiN {r:Rt.Route} (h:Rt.Small r):Few r:=by
 obtain⟨h1,h2,h3,h4,h5⟩:=h
 exact⟨by omega,by omega,by omega,by omega,by omega⟩
theorem AoR {L:List Rt.Route}:∀ x∈Cl.rows L,x.length<=L.length:=λx hx=>by
 unfold Cl.rows at hx
 obtain⟨i,-,rfl⟩:=List.mem_map.1 hx
 exact Cl.row_len L i
theorem AeU {p:Pl.Plan} (h:(Rt.all p).2=0):make p=(⟨p.secs.map Pl.Sec.name,p.secs.map Pl.Sec.pt,p.sigs.map Pl.Sig.name,p.se,(Rt.all p).1,Cl.rows (Rt.all p).1⟩,0):=ArZ h
theorem AmZ {p:Pl.Plan} (h:(Rt.all p).2≠0):make p=(zero,(Rt.all p).2):=ArY h
structure Tight (t:Table):Prop where
 names:t.names.length<=24
 points:t.points.length<=24
 sigs:t.sigs.length<=12
 routes:t.routes.length<=30
 name:∀ x∈t.names,x.length<=1000000
 sig:∀ x∈t.sigs,x.length<=1000000
 route:∀ r∈t.routes,Rt.Small r
 bar:∀ x∈t.bars,x.length<=30
 bars:t.bars.length<=30
theorem Tight.bound {t:Table} (h:Tight t):Bound t:=by
 obtain⟨h1,h2,h3,h4,h5,h6,h7,h8,h9⟩:=h
 exact⟨by omega,by omega,by omega,by omega,h5,h6,λr hr=>AiN (h7 r hr),λx hx=>by have:=h8 x hx;omega,by omega⟩
theorem qF:Tight zero:=⟨by decide,by decide,by decide,by decide,λ_ h=>(by cases h),λ_ h=>(by cases h),λ_ h=>(by cases h),λ_ h=>(by cases h),by decide⟩
theorem qG {p:Pl.Plan} (hf:Pl.Fit p) (hn:Named p):Tight (make p).1:=by
 by_cases h:(Rt.all p).2=0
 ·rw[AeU h]
  have h1:=hf.few
  have h2:=hf.gfew
  have h3:=Rt.all_len p
  refine⟨by rw[AsH];exact h1,by rw[AsH];exact h1,by rw[AsH];exact h2,h3,?_,?_,Rt.lI hf,λx hx=>ArS (AoR x hx) h3,by rw[Cl.rows_len];exact h3⟩
  ·intro x hx
   obtain⟨s,hs,rfl⟩:=List.mem_map.1 hx
   exact zN (hn.secs s hs)
  intro x hx
  obtain⟨s,hs,rfl⟩:=List.mem_map.1 hx
  exact zN (hn.sigs s hs)
 rw[AmZ h]
 exact qF
end Tb
end Go.Proofs.YtjofpclmbjpgjaaGreat
namespace Go.Proofs.YtjofpclmbjpgjaaGreat.Rt
open Go Pl Wk
theorem zO {p:Plan} {i:Int}:∀ {ws:List Cr.Way} {acc:List Route},(∀ w∈ws,(Lp.of p i w).2=0)->acc.length+ws.length<=30->ways p i ws acc=(acc++ws.map λw=>fill p i w (Lp.of p i w).1,0)
 | [],acc,_,_=>by rw[List.map_nil,AsM];rfl
 | w :: ws,acc,h,hl=>by
   rw[AsJ] at hl
   have h1:=h w (List.mem_cons_self ..)
   rw[tE (by omega) (by rw[of_err];exact h1),of_ok h1,zO (λx hx=>h x (List.mem_cons_of_mem _ hx)) (by rw[ArV,List.length_singleton];omega),List.append_assoc]
   rfl
theorem zP {p:Plan}:∀ {l:List Nat} {acc:List Route},(∀ i∈l,(Cr.of p i).2=0/\∀ w∈(Cr.of p i).1,(Lp.of p i w).2=0)->acc.length+(l.map λ(i:Nat)=>(Cr.of p i).1.length).sum<=30->from_ p l acc=(acc++l.flatMap (λ(i:Nat)=>(Cr.of p i).1.map λw=>fill p i w (Lp.of p i w).1),0)
 | [],acc,_,_=>by rw[List.flatMap_nil,AsM];rfl
 | i :: l,acc,h,hl=>by
   rw[List.map_cons,List.sum_cons] at hl
   obtain⟨h1,h2⟩:=h i (List.mem_cons_self ..)
   have hw:=zO (p:=p) (i:=i) (acc:=acc) h2 (by omega)
   rw[tF h1 (by rw[hw]),hw,zP (λx hx=>h x (List.mem_cons_of_mem _ hx)) (by rw[ArV,AsH];omega),List.append_assoc,List.flatMap_cons]
theorem all_all {p:Plan} (h:∀ i∈List.range p.sigs.length,(Cr.of p i).2=0/\∀ w∈(Cr.of p i).1,(Lp.of p i w).2=0) (hl:((List.range p.sigs.length).map λ(i:Nat)=>(Cr.of p i).1.length).sum<=30):all p=((List.range p.sigs.length).flatMap (λ(i:Nat)=>(Cr.of p i).1.map λw=>fill p i w (Lp.of p i w).1),0):=by
 unfold all
 rw[zP h (by rw[List.length_nil];omega),List.nil_append]
end Go.Proofs.YtjofpclmbjpgjaaGreat.Rt
namespace Go.Proofs.YtjofpclmbjpgjaaGreat
open Go.RowKit
def awL:Pl.Plan:=⟨3000,15000,2,1,[⟨[69],false,9000,⟨3,0,3⟩,⟨1,0,-1⟩,⟨-1,0,-1⟩⟩,⟨[70],false,8000,⟨0,1,7⟩,⟨-1,0,-1⟩,⟨-1,0,-1⟩⟩,⟨[80],true,5000,⟨7,1,-1⟩,⟨4,0,-1⟩,⟨5,0,-1⟩⟩,⟨[81],true,5000,⟨0,0,-1⟩,⟨4,1,-1⟩,⟨5,1,-1⟩⟩,⟨[84],false,7000,⟨2,1,4⟩,⟨3,1,1⟩,⟨-1,0,-1⟩⟩,⟨[85],false,7000,⟨2,2,5⟩,⟨3,2,2⟩,⟨-1,0,-1⟩⟩,⟨[86],false,8000,⟨-1,0,-1⟩,⟨7,0,6⟩,⟨-1,0,-1⟩⟩,⟨[87],false,9000,⟨6,1,-1⟩,⟨2,0,0⟩,⟨-1,0,-1⟩⟩],[⟨[65],7,1⟩,⟨[66],4,1⟩,⟨[67],5,1⟩,⟨[68],0,0⟩,⟨[71],4,0⟩,⟨[72],5,0⟩,⟨[73],6,1⟩,⟨[74],1,0⟩]⟩
abbrev exL:ByteArray:=⟨((([111,118,101,114,108,97,112,32,51,48,48,48,10,97,112,112,114,111,97,99,104,32,49,53,48,48,48,10,115,101,116,116,108,101,32,50,10,104,111,108,100,32,49,10,115,101,99,116].append [105,111,110,32,87,32,57,48,48,48,10,115,101,99,116,105,111,110,32,86,32,56,48,48,48,10,112,111,105,110,116,32,80,32,53,48,48,48,10,115,101,99,116,105,111,110,32,84,32]).append ([55,48,48,48,10,115,101,99,116,105,111,110,32,85,32,55,48,48,48,10,112,111,105,110,116,32,81,32,53,48,48,48,10,115,101,99,116,105,111,110,32,69,32,57,48,48,48,10,115].append [101,99,116,105,111,110,32,70,32,56,48,48,48,10,106,111,105,110,32,86,46,98,32,87,46,97,10,106,111,105,110,32,87,46,98,32,80,46,116,10,106,111,105,110,32,80,46,110,32])).append (([84,46,97,10,106,111,105,110,32,80,46,114,32,85,46,97,10,106,111,105,110,32,84,46,98,32,81,46,110,10,106,111,105,110,32,85,46,98,32,81,46,114,10,106,111,105,110,32].append [81,46,116,32,69,46,97,10,106,111,105,110,32,69,46,98,32,70,46,97,10,98,117,102,102,101,114,32,86,46,97,10,98,117,102,102,101,114,32,70,46,98,10,115,105,103,110,97,108]).append ([32,65,32,87,46,98,10,115,105,103,110,97,108,32,66,32,84,46,98,10,115,105,103,110,97,108,32,67,32,85,46,98,10,115,105,103,110,97,108,32,68,32,69,46,97,10,115,105,103].append [110,97,108,32,71,32,84,46,97,10,115,105,103,110,97,108,32,72,32,85,46,97,10,115,105,103,110,97,108,32,73,32,86,46,98,10,115,105,103,110,97,108,32,74,32,70,46,97,10]))).toArray⟩
theorem AiO:Pl.cL exL.data.toList=(awL,0,0):=by decide +kernel
theorem kS:fY exL.data.toList=some awL:=by
 unfold fY
 rw[AiO]
 exact ArZ ⟨by decide +kernel,rfl⟩
theorem AqF:∀ i∈List.range awL.sigs.length,(Cr.of awL i).2=0/\∀ w∈(Cr.of awL i).1,(Lp.of awL i w).2=0:=by decide +kernel
theorem AeV:((List.range awL.sigs.length).map λ(i:Nat)=>(Cr.of awL i).1.length).sum=10:=by decide +kernel
theorem AeW:Rt.all awL=((List.range awL.sigs.length).flatMap (λ(i:Nat)=>(Cr.of awL i).1.map λw=>Rt.fill awL i w (Lp.of awL i w).1),0):=Rt.all_all AqF (by rw[AeV];decide)
theorem AoS:∃ T:Tb.Table,Tb.make awL=(T,0)/\T.names=[[69],[70],[80],[81],[84],[85],[86],[87]]/\T.points=[false,false,true,true,false,false,false,false]/\T.sigs=[[65],[66],[67],[68],[71],[72],[73],[74]]/\T.settle=2/\T.routes.length=10/\T.bars.length=10/\Tb.Tight T/\Tb.right T=true:=by
 have h0:(Rt.all awL).2=0:=by rw[AeW]
 have hm:=gN kS
 have hn:=mU kS
 have hl:(Rt.all awL).1.length=10:=by
  rw[AeW]
  show (List.flatMap _ _).length=10
  rw[List.length_flatMap,<-AeV]
  congr 2
  funext i
  rw[AsH]
 have ht:=Tb.qG hm.1 hn
 have hr:=Tb.right_make hm.1 hm.2.1 hn h0
 have e:=Tb.AeU h0
 rw[e] at ht hr
 exact⟨_,e,by decide,by decide,by decide,by decide,hl,(Cl.rows_len _).trans hl,ht,hr⟩
namespace Tb
theorem vM (t:Table):right { t with settle:=-1 } = false:=by
 refine Bool.eq_false_iff.2 λh=>?_
 unfold right at h
 simp only[AsF,AsC] at h
 have:=h.1.1.1.2
 omega
theorem zQ {t:Table} {N:List Pl.Nm} (h:namesOk N=false):right { t with names:=N } = false:=by
 refine Bool.eq_false_iff.2 λh'=>?_
 unfold right at h'
 simp only[AsF,h] at h'
 exact absurd h'.1.1.1.1.1.2 (by decide)
theorem vN:namesOk [[90],[70],[80],[81],[84],[85],[86],[87]]=false:=by decide +kernel
theorem AdE:right zero=true:=by decide +kernel
theorem AdF:Bound zero:=qF.bound
theorem vO {t:Table} (h:Bound t) (x:Int):Bound { t with settle:=x }:=⟨h.1,h.2,h.3,h.4,h.5,h.6,h.7,h.8,h.9⟩
theorem zR {t:Table} (h:Bound t):Bound { t with names:=[[90],[70],[80],[81],[84],[85],[86],[87]] }:=⟨show 8<=1000000 by decide,h.2,h.3,h.4,(by decide:∀ x∈([[90],[70],[80],[81],[84],[85],[86],[87]]:List Pl.Nm),x.length<=1000000),h.6,h.7,h.8,h.9⟩
end Tb
end Go.Proofs.YtjofpclmbjpgjaaGreat
