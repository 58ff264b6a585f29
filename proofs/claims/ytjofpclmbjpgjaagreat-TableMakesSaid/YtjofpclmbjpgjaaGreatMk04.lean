/- Lemmas. -/
import Derived.Test.YtjofpclmbjpgjaaGreatMk03
import Derived.BigFrame
import Derived.Deep.AppendLies
import Derived.Deep.RegionHeld3
import Derived.Outline
import Derived.OwnWalk
set_option maxHeartbeats 4000000
set_option maxRecDepth 100000
namespace Go.Proofs.YtjofpclmbjpgjaaGreat.Rt
open Lib (hid)
open Go Pl Wk
structure Route where
 entry:Int
 exit:Int
 steps:List Stp
 lap:List Stp
 pts:List Dm.Dem
 fl:List Int
 near:List Int
 dist:Int
 timer:Int
deriving DecidableEq
def zero:Route:=⟨0,0,[],[],[],[],[],0,0⟩
noncomputable def fill (p:Plan) (i:Int) (w:Cr.Way) (l:List Stp):Route :=
 ⟨i,w.exit,w.steps,l,(Fl.of p (w.steps++l)).pts,(Fl.of p (w.steps++l)).fl,(Nr.of p i).1.map λ(n:Nat)=>(n:Int),(Nr.of p i).2,p.ho+(Nr.of p i).2 / 100000⟩
noncomputable def of (p:Plan) (i:Int) (w:Cr.Way):Route × Int:=if (Lp.of p i w).2=0 then(fill p i w (Lp.of p i w).1,0) else(zero,(Lp.of p i w).2)
noncomputable def ways (p:Plan) (i:Int):List Cr.Way->List Route->List Route × Int
 | [],acc=>(acc,0)
 | w :: ws,acc=>if acc.length=30 then([],9) else if (of p i w).2=0 then ways p i ws (acc++[(of p i w).1]) else([],(of p i w).2)
noncomputable def from_ (p:Plan):List Nat->List Route->List Route × Int
 | [],acc=>(acc,0)
 | i :: l,acc=>if (Cr.of p i).2=0 then(if (ways p i (Cr.of p i).1 acc).2=0 then from_ p l (ways p i (Cr.of p i).1 acc).1 else([],(ways p i (Cr.of p i).1 acc).2)) else([],(Cr.of p i).2)
noncomputable def all (p:Plan):List Route × Int:=from_ p (List.range p.sigs.length) []
theorem of_ok {p:Plan} {i:Int} {w:Cr.Way} (h:(Lp.of p i w).2=0):of p i w=(fill p i w (Lp.of p i w).1,0):=by unfold of;rw[ArZ h]
theorem of_bad {p:Plan} {i:Int} {w:Cr.Way} (h:(Lp.of p i w).2≠0):of p i w=(zero,(Lp.of p i w).2):=by unfold of;rw[ArY h]
theorem of_err (p:Plan) (i:Int) (w:Cr.Way):(of p i w).2=(Lp.of p i w).2:=by
 by_cases h:(Lp.of p i w).2=0
 ·rw[of_ok h,h]
 rw[of_bad h]
theorem tE {p:Plan} {i:Int} {ws:List Cr.Way} {w:Cr.Way} {acc:List Route} (h:acc.length≠30) (h2:(of p i w).2=0):ways p i (w :: ws) acc=ways p i ws (acc++[(of p i w).1]):=by
 show (if acc.length=30 then _ else _)=_
 rw[ArY h,ArZ h2]
theorem qW {p:Plan} {i:Int} {ws:List Cr.Way} {w:Cr.Way} {acc:List Route} (h:acc.length=30):ways p i (w :: ws) acc=([],9):=by
 show (if acc.length=30 then _ else _)=_
 rw[ArZ h]
theorem wF {p:Plan} {i:Int} {ws:List Cr.Way} {w:Cr.Way} {acc:List Route} (h:acc.length≠30) (h2:(of p i w).2≠0):ways p i (w :: ws) acc=([],(of p i w).2):=by
 show (if acc.length=30 then _ else _)=_
 rw[ArY h,ArY h2]
theorem tF {p:Plan} {i:Nat} {l:List Nat} {acc:List Route} (h:(Cr.of p i).2=0) (h2:(ways p i (Cr.of p i).1 acc).2=0):from_ p (i :: l) acc=from_ p l (ways p i (Cr.of p i).1 acc).1:=by
 show (if (Cr.of p i).2=0 then _ else _)=_
 rw[ArZ h,ArZ h2]
theorem qX {p:Plan} {i:Nat} {l:List Nat} {acc:List Route} (h:(Cr.of p i).2≠0):from_ p (i :: l) acc=([],(Cr.of p i).2):=by
 show (if (Cr.of p i).2=0 then _ else _)=_
 rw[ArY h]
theorem wH {p:Plan} {i:Nat} {l:List Nat} {acc:List Route} (h:(Cr.of p i).2=0) (h2:(ways p i (Cr.of p i).1 acc).2≠0):from_ p (i :: l) acc=([],(ways p i (Cr.of p i).1 acc).2):=by
 show (if (Cr.of p i).2=0 then _ else _)=_
 rw[ArZ h,ArY h2]
theorem drop_at {α:Type} {l:List α} {k:Nat} {x:α} (h:l[k]?=some x):l.drop k=x :: l.drop (k+1):=by
 obtain⟨hk,rfl⟩:=ArM h
 exact List.drop_eq_getElem_cons hk
theorem range_drop {n k:Nat} (h:k<n):(List.range n).drop k=k :: (List.range n).drop (k+1):=drop_at (by rw[List.getElem?_range h])
theorem wI {p:Plan} {i:Int}:∀ {ws:List Cr.Way} {acc:List Route},acc.length<=30->(ways p i ws acc).1.length<=30
 | [],_,h=>h
 | w :: ws,acc,h=>by
   by_cases h1:acc.length=30
   ·rw[qW h1];exact AsD _
   by_cases h2:(of p i w).2=0
   ·rw[tE h1 h2]
    exact wI (by rw[ArV,List.length_singleton];omega)
   rw[wF h1 h2];exact AsD _
theorem wJ {p:Plan}:∀ {l:List Nat} {acc:List Route},acc.length<=30->(from_ p l acc).1.length<=30
 | [],_,h=>h
 | i :: l,acc,h=>by
   by_cases h1:(Cr.of p i).2=0
   ·by_cases h2:(ways p i (Cr.of p i).1 acc).2=0
    ·rw[tF h1 h2];exact wJ (wI h)
    rw[wH h1 h2];exact AsD _
   rw[qX h1];exact AsD _
theorem all_len (p:Plan):(all p).1.length<=30:=wJ (AsD _)
theorem qY {p:Plan} {i:Int} {R:Route->Prop}:∀ {ws:List Cr.Way} {acc:List Route},(∀ w∈ws,(of p i w).2=0->R (of p i w).1)->(∀ r∈acc,R r)->∀ r∈(ways p i ws acc).1,R r
 | [],_,_,h=>h
 | w :: ws,acc,hw,h=>by
   by_cases h1:acc.length=30
   ·rw[qW h1];exact λ_ hr=>by cases hr
   by_cases h2:(of p i w).2=0
   ·rw[tE h1 h2]
    refine qY (λw' hw'=>hw w' (List.mem_cons_of_mem _ hw')) λr hr=>?_
    rcases ArW.1 hr with hr|hr
    ·exact h r hr
    rw[AsS.1 hr];exact hw w (List.mem_cons_self ..) h2
   rw[wF h1 h2];exact λ_ hr=>by cases hr
theorem qZ {p:Plan} {R:Route->Prop}:∀ {l:List Nat} {acc:List Route},(∀ i∈l,∀ w∈(Cr.of p i).1,(of p i w).2=0->R (of p i w).1)->(∀ r∈acc,R r)->∀ r∈(from_ p l acc).1,R r
 | [],_,_,h=>h
 | i :: l,acc,hw,h=>by
   by_cases h1:(Cr.of p i).2=0
   ·by_cases h2:(ways p i (Cr.of p i).1 acc).2=0
    ·rw[tF h1 h2]
     exact qZ (λj hj=>hw j (List.mem_cons_of_mem _ hj)) (qY (hw i (List.mem_cons_self ..)) h)
    rw[wH h1 h2];exact λ_ hr=>by cases hr
   rw[qX h1];exact λ_ hr=>by cases hr
theorem all_each {p:Plan} {R:Route->Prop} (h:∀ i<p.sigs.length,∀ w∈(Cr.of p i).1,(of p i w).2=0->R (of p i w).1):∀ r∈(all p).1,R r :=
 qZ (λi hi=>h i (List.mem_range.1 hi)) λ_ hr=>by cases hr
theorem sig_at {p:Plan} {i:Nat} (hi:i<p.sigs.length):Cr.sigAt p (i:Int)=some p.sigs[i]:=by
 unfold Cr.sigAt
 rw[ArY (by omega),AsP,ArN hi]
end Go.Proofs.YtjofpclmbjpgjaaGreat.Rt
namespace Go.Proofs.YtjofpclmbjpgjaaGreat
open Lib (hid)
open Go.RowKit
theorem aH {B:Nat} {a w:World} (h:Below B a w) (n:Nat):Below B a (w.drewN n):=⟨h.os,h.tape,h.output,h.size,h.block⟩
def Strs (w:World) (A:Option Addr) (L:List (List UInt8)):Prop :=
 ∀ k x,L[k]?=some x->∃ a,A=some a/\a.block<w.heap.size/\w.cell? (a.add k)=some (str x)
theorem AfQ (a:Addr) (k:Nat):(a.add k).block=a.block:=by unfold Addr.add;split <;> rfl
theorem Strs.nil (w:World) (A:Option Addr):Strs w A []:=λk x h=>by simp at h
theorem Strs.below {w w':World} {A:Option Addr} {L:List (List UInt8)} {B:Nat} (h:Strs w A L) (hB:B=w.heap.size) (hb:Below B w w'):Strs w' A L:=λk x hx=>by
 subst hB
 obtain⟨a,rfl,h1,h2⟩:=h k x hx
 have:=hb.size
 exact⟨a,rfl,by omega,by rw[hb.cell (by rw[AfQ];exact h1)];exact h2⟩
theorem Strs.take {w:World} {A:Option Addr} {L:List (List UInt8)} (h:Strs w A L) (n:Nat):Strs w A (L.take n):=λk x hx=>h k x (by
 rw[List.getElem?_take] at hx
 split at hx
 ·exact hx
 cases hx)
theorem Strs.cell {w:World} {A:Option Addr} {L:List (List UInt8)} (h:Strs w A L) {k:Nat} (hk:k<L.length):∃ a,A=some a/\a.block<w.heap.size/\w.cell? (a.add k)=some (str L[k]):=h k _ (ArN hk)
theorem Strs.of_own {w:World} {base:Nat} {e:TypeId} {v:Value} {n:Nat} {L:List (List UInt8)} (h:w.ownsRow base e 1 v n (L.map str)) :
 n=L.length/\∃ A c,v=.slice A n c/\n<=c/\Strs w A L:=by
 have hl:L.length=n:=by simpa using h.1
 refine⟨hl.symm,?_⟩
 rcases h.2 with ⟨rfl,rfl⟩|⟨g,cap,cur,rfl,_,hh,hc,_⟩
 ·exact⟨none,0,rfl,ArR _,by rw[AsR hl];exact Strs.nil _ _⟩
 refine⟨some ⟨g,0,none⟩,cap,rfl,hc,λk x hx=>⟨_,rfl,?_,?_⟩⟩
 ·exact(ArL hh).1
 exact h.cells (g:=g) rfl k _ (by rw[List.getElem?_map,hx];rfl)
theorem Strs.fresh (w:World) (L:List (List UInt8)) (t:TypeId):Strs (w.alloc (.cells (L.map str).toArray t)) (some ⟨w.heap.size,0,none⟩) L:=λk x hx=>by
 refine⟨_,rfl,by simp,?_⟩
 rw[Go.WideShapes.add_plain,Nat.zero_add,AsY _ _ _ _ _ _ (AsW w _)]
 simp[hx]
def GivesList (L:List (List UInt8)) (b:Bool) (w:World) (e:Ending) (w':World):Prop :=
 ∃ A c,L.length<=c/\e=.returned (.tuple #[.slice A L.length c,.bool b])/\Strs w' A L/\Below w.heap.size w w'
theorem GivesList.mk {L:List (List UInt8)} {b:Bool} {w w':World} {e:Ending} {A:Option Addr} {n c:Nat} (hc:n<=c) (hn:n=L.length) (he:e=.returned (.tuple #[.slice A n c,.bool b])) (hs:Strs w' A L) (hb:Below w.heap.size w w') :
 GivesList L b w e w':=by subst hn;exact⟨A,c,hc,he,hs,hb⟩
theorem Strs.news {w:World} {a:Addr} {L:List (List UInt8)} (h:Strs w (some a) L):∀ j u,(L.map str)[j]?=some u->w.cell? (a.add j)=some u:=λj u hu=>by
 rw[List.getElem?_map] at hu
 cases hj:L[j]? with
 | none=>rw[hj] at hu;cases hu
 | some x =>
   rw[hj] at hu
   cases hu
   obtain⟨a',ha,_,hc⟩:=h j x hj
   cases ha
   exact hc
theorem byte32 {c:UInt8}:((c.toNat:Int) == 32)=true ↔ c=32:=by
 rw[beq_iff_eq]
 constructor
 ·intro h;exact UInt8.toNat_inj.mp (by simpa using Int.ofNat.inj h)
 rintro rfl;rfl
theorem toList_inj {x y:List UInt8} (h:(txt x).toList=(txt y).toList):x=y:=by
 rw[ByteArray.toList_eq,ByteArray.toList_eq,aT,aT] at h
 exact h
theorem AqM {r:List UInt8} (h:r=[]):(txt r).toList.isEmpty=true:=by
 rw[ByteArray.toList_eq,aT];simpa using h
theorem AqN {r:List UInt8} (h:r≠[]):(txt r).toList.isEmpty=false:=by
 rw[ByteArray.toList_eq,aT];simpa using h
def GivesSome (L:List (List UInt8)) (b:Bool) (w:World) (e:Ending) (w':World):Prop :=
 ∃ a c,L.length<=c/\e=.returned (.tuple #[.slice (some a) L.length c,.bool b])/\Strs w' (some a) L/\Below w.heap.size w w'
theorem GivesSome.mk {L:List (List UInt8)} {b:Bool} {w w':World} {e:Ending} {a:Addr} {n c:Nat} (hc:n<=c) (hn:n=L.length) (he:e=.returned (.tuple #[.slice (some a) n c,.bool b])) (hs:Strs w' (some a) L) (hb:Below w.heap.size w w') :
 GivesSome L b w e w':=by subst hn;exact⟨a,c,hc,he,hs,hb⟩
theorem eQ:(Tryz.prog.info? 9).map (λi=>(i.zero,i.size,i.bytes))=some (some (.string ByteArray.empty),1,16):=by kernel_rfl
theorem AnK (c:UInt8) (n:Nat) (h:n<256):((c.toNat:Int) == (n:Int))=decide (c=UInt8.ofNat n):=by
 rw[Bool.eq_iff_iff,beq_iff_eq,AsC]
 constructor
 ·intro e;apply UInt8.toNat_inj.mp;rw[UInt8.toNat_ofNat'];omega
 rintro rfl;rw[UInt8.toNat_ofNat'];omega
theorem gF (s:ByteArray) (f k:Nat):txt ((s.data.toList.take k).drop f)=s.extract f k:=by
 apply ByteArray.ext
 simp[txt,ByteArray.data_extract,List.drop_take]
 apply Array.ext'
 simp[Array.toList_extract]
theorem AdO (c:UInt8) (s:ByteArray) (k:Nat) (d:List (List UInt8)) (r:List UInt8) (hk:k<s.size) (hst:Ln.st c (s.data.toList.take k)=(d,r)) (h:s[k]=c) :
 Ln.st c (s.data.toList.take (k+1))=(d++[r],[]):=by
 rw[dU s k hk,Ln.st_snoc,hst,Ln.step,ArZ h]
theorem wK (c:UInt8) (s:ByteArray) (k:Nat) (d:List (List UInt8)) (r:List UInt8) (hk:k<s.size) (hst:Ln.st c (s.data.toList.take k)=(d,r)) (h:s[k]≠c) :
 Ln.st c (s.data.toList.take (k+1))=(d,r++[s[k]]):=by
 rw[dU s k hk,Ln.st_snoc,hst,Ln.step,ArY h]
theorem AfR (s:ByteArray) (f k:Nat) (r:List UInt8) (hk:k<s.size) (hf:f<=k) (h:(s.data.toList.take k).drop f=r):(s.data.toList.take (k+1)).drop f=r++[s[k]]:=by
 rw[dU s k hk,List.drop_append_of_le_length (by simp;omega),h]
theorem rA (s:ByteArray) (k:Nat):(s.data.toList.take k).drop k=[]:=by
 rw[List.drop_eq_nil_iff];simp;omega
theorem AaN (s:ByteArray) (w:World) (hs:s.size<=1000000) :
 Calls Tryz.prog 19 #[.string s] w (GivesList (Ln.split s.data.toList) (Ln.whole s.data.toList) w):=by
 obtain⟨i0,hi,hz0,hz1,hz2⟩:=info_parts eQ
 go_enter Tryz.func19,Tryz.ntmps19
 go_wp2
 go_loopw [4,5,6] (λv f i wr=>∃ (k j:Nat) (d:List (List UInt8)) (r:List UInt8),k<=s.size/\j<=k/\i=.int .i64 k/\f=.int .i64 j/\Ln.st 10 (s.data.toList.take k)=(d,r)/\(s.data.toList.take k).drop j=r /\
  wr.ownsRow w.heap.size 9 1 v d.length (d.map str)/\Below w.heap.size w wr) (λ_ _ i _=>s.size-(intOf i).toNat)
 case atStart=>exact⟨0,0,[],[],AsD _,ArR _,rfl,rfl,rfl,rfl,World.ownsRow_nil _ _ _ _,Below.refl _ _⟩
 case round =>
  obtain⟨k,j,d,r,hk,hj,rfl,rfl,hst,hr,hown,hbel⟩:=hrel
  have hd:d.length<=k:=by
   have:=Ln.st_len 10 (s.data.toList.take k)
   rw[hst] at this
   simp at this;omega
  have hz:=hbel.size
  by_cases hlt:k<s.size
  ·have hb:=AnK s[k] 10 (by omega)
   by_cases hc:s[k]=10
   ·have h1:((s[k].toNat:Int) == 10)=true:=by rw[show (10:Int)=((10:Nat):Int) from rfl,hb];exact aC hc
    have N:=hid (AdO 10 s k d r hlt hst hc)
    have X:=hid (gF s j k)
    rw[hr] at X
    clear hb hc hst hr
    go_wp2_with (at_builtin;refine wpList_append_own _ rfl (.tmp 17) (.tmp 22) 29 rfl w.heap.size 9 i0 (.string ByteArray.empty) 1 16 Tryz.underlying29 hi hz0 hz1 hz2 rfl (by decide) _ _ _ rfl (hown.alloc _) ⟨wr.heap.size,0,none⟩ 1 1 [.string (s.extract j k)] rfl rfl (cell_one_new _ _ _) (λx hx=>by simp at hx;subst hx;rfl) (by unfold maxLen;omega) (by omega) (by simp;omega) ?_;intro v1 w1 hown1 hg1 _)
    have hbel1:Below w.heap.size w w1:=(hbel.alloc hz _).grown hg1 (by simp;omega) (λg hg=>(hown.lt g hg).1)
    have O1:=hid hown1
    clear hown1 hg1 hown
    go_roundw
    case rel =>
     refine⟨k+1,k+1,d++[r],[],by omega,by omega,by go_num,by go_num,N.out,rA s (k+1),?_,hbel1⟩
     have e1:(d++[r]).map str=d.map str++[.string (s.extract j k)]:=by rw[List.map_append,List.map_singleton,str,X.out]
     rw[e1,ArV,List.length_singleton]
     exact O1.out
    case measure=>simp[intOf];omega
   have h1:((s[k].toNat:Int) == 10)=false:=by rw[show (10:Int)=((10:Nat):Int) from rfl,hb];exact aB hc
   have N:=hid (wK 10 s k d r hlt hst hc)
   have X:=hid (AfR s j k r hlt hj hr)
   have O:=hid hown
   clear hb hc hst hr hown
   go_wp2
   go_roundw
   case rel=>exact⟨k+1,j,d,r++[s[k]],by omega,by omega,by go_num,rfl,N.out,X.out,O.out,hbel⟩
   case measure=>simp[intOf];omega
  obtain rfl:k=s.size:=by omega
  have hall:s.data.toList.take s.size=s.data.toList:=AsT (by simp)
  rw[hall] at hst hr
  have hrl:r.length=s.size-j:=by rw[<-hr];simp
  have X:=hid (gF s j s.size)
  rw[hall,hr] at X
  by_cases hjs:j<s.size
  ·have hrne:r≠[]:=by intro e;rw[e] at hrl;simp at hrl;omega
   have e1:Ln.whole s.data.toList=false:=by rw[Ln.whole,hst];simpa using hrne
   have e2:Ln.split s.data.toList=d++[r]:=by rw[Ln.split,e1,Ln.cut,hst];rfl
   have E:=hid (AsG e1 e2)
   clear e1 e2 hst hr hrl hrne
   go_wp2_with (at_builtin;refine wpList_append_own _ rfl (.tmp 30) (.tmp 34) 29 rfl w.heap.size 9 i0 (.string ByteArray.empty) 1 16 Tryz.underlying29 hi hz0 hz1 hz2 rfl (by decide) _ _ _ rfl (hown.alloc _) ⟨wr.heap.size,0,none⟩ 1 1 [.string (s.extract j s.size)] rfl rfl (cell_one_new _ _ _) (λx hx=>by simp at hx;subst hx;rfl) (by unfold maxLen;omega) (by omega) (by simp;omega) ?_;intro v1 w1 hown1 hg1 _)
   have hbel1:Below w.heap.size w w1:=(hbel.alloc hz _).grown hg1 (by simp;omega) (λg hg=>(hown.lt g hg).1)
   have e3:(d++[r]).map str=d.map str++[.string (s.extract j s.size)]:=by rw[List.map_append,List.map_singleton,str,X.out]
   rw[<-e3] at hown1
   obtain⟨hn,A,c,rfl,hcap,hs1⟩:=Strs.of_own hown1
   clear hown1 hown hg1
   go_wp2
   go_ret2
   rw[E.out.1,E.out.2]
   exact GivesList.mk hcap hn rfl hs1 hbel1
  have hrn:r=[]:=by apply AsR;omega
  have e1:Ln.whole s.data.toList=true:=by rw[Ln.whole,hst,hrn];rfl
  have e2:Ln.split s.data.toList=d:=by rw[Ln.split,e1,hst];rfl
  have E:=hid (AsG e1 e2)
  obtain⟨hn,A,c,rfl,hcap,hs1⟩:=Strs.of_own hown
  clear e1 e2 hst hr hrl hrn hown
  go_wp2
  go_ret2
  rw[E.out.1,E.out.2]
  exact GivesList.mk hcap rfl rfl hs1 hbel
theorem rB (L:List (List UInt8)) (k:Nat) (h:k<L.length):Ln.line (L.take (k+1))=if k=0 then L[k] else Ln.line (L.take k)++[32]++L[k]:=by
 rw[AsK h,Ln.line,Ln.join_snoc]
 by_cases h0:k=0
 ·subst h0;simp
 rw[ArY h0]
 obtain⟨j,rfl⟩:∃ j,k=j+1:=⟨k-1,by omega⟩
 have e:L.take (j+1)=L.take j++[L[j]]:=AsK (by omega)
 rw[e,Ln.line,Ln.join_snoc]
 simp only[List.map_append,List.flatten_append,List.map_cons,List.map_nil,List.flatten_cons,List.flatten_nil,AsM,List.append_assoc]
theorem tI (L:List (List UInt8)):∀ k,(Ln.line (L.take k)).length<=(Ln.line (L.take (k+1))).length:=by
 intro k
 by_cases h:k<L.length
 ·rw[rB L k h]
  split
  ·rename_i h0;subst h0;simp[Ln.line,Lib.join]
  rw[ArV,ArV];omega
 rw[AsT (by omega),AsT (by omega)];omega
theorem rC (L:List (List UInt8)) (k:Nat):(Ln.line (L.take k)).length<=(Ln.line L).length:=by
 by_cases h:k<L.length
 ·have:∀ n,(Ln.line (L.take k)).length<=(Ln.line (L.take (k+n))).length:=by
   intro n
   induction n with
   | zero=>simp
   | succ n ih=>have:=tI L (k+n);rw[show k+(n+1)=k+n+1 by omega];omega
  have:=this (L.length-k)
  rwa [AsT (show L.length<=k+(L.length-k) by omega)] at this
 rw[AsT (by omega)];omega
theorem gY (a b:List UInt8):txt a++txt b=txt (a++b):=by
 apply ByteArray.ext
 simp[txt,ByteArray.data_append]
theorem AfS (A:Option Addr) (c:Nat) (L:List (List UInt8)) (w:World) (h:Strs w A L) (hl:L.length<=1000000) (hx:(Ln.line L).length<=10000000) :
 Calls Tryz.prog 85 #[.slice A L.length c] w λe w'=>e=.returned (.string (txt (Ln.line L)))/\w=w':=by
 go_enter Tryz.func85,Tryz.ntmps85
 go_wp2
 go_loop [3,4] (λt i=>∃ k:Nat,k<=L.length/\i=.int .i64 k/\t=.string (txt (Ln.line (L.take k)))) (λ_ i=>L.length-(intOf i).toNat)
 case atStart=>exact⟨0,AsD _,rfl,rfl⟩
 case round =>
  obtain⟨k,hk,rfl,rfl⟩:=hrel
  by_cases hlt:k<L.length
  ·have ht:=rB L k hlt
   have hle:=rC L (k+1)
   have hle0:=rC L k
   obtain⟨a,rfl,hb,hc⟩:=h.cell hlt
   rw[str] at hc
   have hq:=bJ L[k]
   have hq2:=bJ (Ln.line (L.take k))
   by_cases h0:k=0
   ·rw[ArZ h0] at ht
    rw[ht] at hle
    have HT:=hid ht
    have h1:¬ 0<k:=by omega
    have H0:=hid h0
    clear ht h0
    go_wp2
    go_round
    case rel=>exact⟨k+1,by omega,by go_num,by
     have h0:=H0.out
     rw[HT.out]
     subst h0
     exact congrArg Value.string (gY [] _)⟩
    case measure=>simp[intOf];omega
   rw[ArY h0] at ht
   rw[ht] at hle
   simp only[ArV,List.length_singleton] at hle
   have h1:0<k:=by omega
   have HT:=hid ht
   clear ht h0
   go_wp2
   go_round
   case rel=>exact⟨k+1,by omega,by go_num,by rw[HT.out,<-gY,<-gY];rfl⟩
   case measure=>simp[intOf];omega
  have e:L.take k=L:=AsT (by omega)
  rw[e]
  go_wp2
  go_ret
  exact⟨rfl,rfl⟩
theorem AnL (d:List (List UInt8)) (r r':List UInt8):((d++[r]).map str).set d.length (str r')=(d++[r']).map str:=by
 simp
theorem ApI {c:UInt8} (h:Ln.okw c=true):33<=(c.toNat:Int)/\(c.toNat:Int)<=126:=by simpa [Ln.okw] using h
theorem ApJ {c:UInt8} (h:Ln.okw c=false) (h2:c≠32):(c.toNat:Int)<32∨127<=(c.toNat:Int):=by
 have h3:(c.toNat:Int)≠32:=λe=>h2 (UInt8.toNat_inj.mp (by simpa using Int.ofNat.inj e))
 simp[Ln.okw] at h
 omega
theorem ApK {s:ByteArray} {k:Nat} (hk:k<s.size) (h:Ln.okw s[k]=false) (h2:s[k]≠32):Ln.ws true s.data.toList=false:=by
 rw[Ln.ws_eq]
 have:s.data.toList.all Ln.okb=false:=by
  rw[List.all_eq_false]
  refine⟨s[k],?_,by simp[Ln.okb,h,h2]⟩
  exact List.getElem_mem (l:=s.data.toList) (n:=k) (by simpa using hk)
 rw[this,Bool.false_and]
theorem AaO (s:ByteArray) (w:World) (hs:s.size<=1000000) :
 Calls Tryz.prog 44 #[.string s] w (GivesList (Ln.words s.data.toList) (Ln.ws true s.data.toList) w):=by
 obtain⟨i0,hi,hz0,hz1,hz2⟩:=info_parts eQ
 go_enter Tryz.func44,Tryz.ntmps44
 go_wp2
 go_loopw [4,5] (λv i wr=>∃ (k:Nat) (d:List (List UInt8)) (r:List UInt8) (g cap:Nat),k<=s.size/\i=.int .i64 k/\v=.slice (some ⟨g,0,none⟩) (d.length+1) cap/\Ln.st 32 (s.data.toList.take k)=(d,r)/\(s.data.toList.take k).all Ln.okb=true /\
  wr.ownsRow w.heap.size 9 1 (.slice (some ⟨g,0,none⟩) (d.length+1) cap) (d.length+1) ((d++[r]).map str)/\Below w.heap.size w wr) (λ_ i _=>s.size-(intOf i).toNat)
 case atStart=>exact⟨0,[],[],w.heap.size,1,AsD _,rfl,rfl,rfl,rfl,World.ownsRow_lit w _ 1 (ArR _) (by unfold maxLen;omega) rfl,(Below.refl _ _).alloc (ArR _) _⟩
 case round =>
  obtain⟨k,d,r,g,cap,hk,rfl,rfl,hst,hall,hown,hbel⟩:=hrel
  have hd:d.length<=k:=by
   have:=Ln.st_len 32 (s.data.toList.take k)
   rw[hst] at this
   simp at this;omega
  have hz:=hbel.size
  by_cases hlt:k<s.size
  ·by_cases hc:s[k]=32
   ·have h1:((s[k].toNat:Int) == 32)=true:=byte32.mpr hc
    have N:=hid (AdO 32 s k d r hlt hst hc)
    have AL:=hid (eD (p:=Ln.okb) hlt hall (by rw[hc];rfl))
    clear hc hst hall
    go_wp2_with (at_builtin;refine wpList_append_own _ rfl (.tmp 19) (.tmp 20) 29 rfl w.heap.size 9 i0 (.string ByteArray.empty) 1 16 Tryz.underlying29 hi hz0 hz1 hz2 rfl (by decide) _ _ _ rfl (hown.alloc _) ⟨wr.heap.size,0,none⟩ 1 1 [.string ⟨#[]⟩] rfl rfl (cell_one_new _ _ _) (λx hx=>by simp at hx;subst hx;rfl) (by unfold maxLen;omega) (by omega) (by simp;omega) ?_;intro v1 w1 hown1 hg1 _)
    have hbel1:Below w.heap.size w w1:=(hbel.alloc hz _).grown hg1 (by simp;omega) (λg hg=>(hown.lt g hg).1)
    obtain⟨g1,cap1,hv1⟩:∃ g1 cap1,v1=.slice (some ⟨g1,0,none⟩) (d.length+1+1) cap1:=by
     obtain⟨g1,cap1,h,_⟩:=hown1.form (by omega)
     exact⟨g1,cap1,h⟩
    subst hv1
    have O1:=hid hown1
    clear hown1 hg1 hown
    go_roundw
    case rel =>
     refine⟨k+1,d++[r],[],g1,cap1,by omega,by go_num,by simp,N.out,AL.out,?_,hbel1⟩
     have e1:((d++[r])++[[]]).map str=(d++[r]).map str++[.string ⟨#[]⟩]:=by rw[List.map_append (l₂:=[[]])];rfl
     rw[e1,ArV,List.length_singleton]
     exact O1.out
    case measure=>simp[intOf];omega
   have h1:((s[k].toNat:Int) == 32)=false:=by
    rw[Bool.eq_false_iff];exact λe=>hc (byte32.mp e)
   cases ho:Ln.okw s[k]
   ·have W:=hid (ApK hlt ho hc)
    have h2:=ApJ ho hc
    clear hc ho hst hall hown
    rcases h2 with h2|h2
    all_goals
     go_wp2
     go_ret2
     rw[Ln.words,W.out]
     exact GivesList.mk (n:=0) (c:=0) (by omega) rfl rfl (Strs.nil _ _) hbel
   have h2:=ApI ho
   have N:=hid (wK 32 s k d r hlt hst hc)
   have AL:=hid (eD (p:=Ln.okb) hlt hall (by simp[Ln.okb,ho]))
   have hr:r.length<=k:=by
    have:=congrArg List.length (Ln.st_join 32 (s.data.toList.take k))
    rw[hst] at this
    simp at this;omega
   have hcell:wr.cell? ⟨g,d.length,none⟩=some (.string (txt r)):=by
    rw[hown.cellAt d.length (by omega)];simp[str]
   have hfz:=hown.frozenAt d.length
   have hsz:=bJ r
   clear hc ho hst hall
   have O:=hid hown
   have hadd:(txt r).size+(s.extract k (k+1)).size<=9223372036854775807:=by rw[hsz,ByteArray.size_extract];omega
   clear hown hsz
   go_wp2
   go_region
   go_wp2
   go_roundw
   case rel =>
    have e1:txt r++s.extract k (k+1)=txt (r++[s[k]]):=by
     rw[<-gF,dU s k hlt,List.drop_append_of_le_length (by simp;omega),rA,List.nil_append,gY]
    have st:=(O.out.drew).stored d.length (str (r++[s[k]]))
    rw[AnL] at st
    refine⟨k+1,d,r++[s[k]],g,cap,by omega,by go_num,rfl,N.out,AL.out,?_,?_⟩
    ·rw[e1];exact st.1
    rw[e1];exact hbel.drew.setCell (by have:=(O.out.lt g (by simp[Value.ownBlock])).1;exact this) _
   case measure=>simp[intOf];omega
  obtain rfl:k=s.size:=by omega
  have e0:s.data.toList.take s.size=s.data.toList:=AsT (by simp)
  rw[e0] at hst hall
  have hcut:Ln.cut 32 s.data.toList=d++[r]:=by rw[Ln.cut,hst]
  have hws:Ln.ws true s.data.toList=(d++[r]).all (λx=>!x.isEmpty):=by rw[Ln.ws_eq,hall,hcut,Bool.true_and]
  have E:=hid (AsG hcut hws)
  obtain⟨hn,A,c,hv,hcap,hs1⟩:=Strs.of_own hown
  cases hv
  have HN:=hid hn
  have hdb:d.length<=1000000:=by omega
  clear e0 hst hall hcut hws hown hn
  go_wp2
  go_loop [6] (λi=>∃ j:Nat,j<=d.length+1/\i=.int .i64 j/\((d++[r]).take j).all (λx=>!x.isEmpty)=true) (λi=>d.length+1-(intOf i).toNat)
  case atStart=>exact⟨0,AsD _,rfl,rfl⟩
  case round =>
   obtain⟨j,hj,rfl,ha⟩:=hrel
   have HA:=hid ha
   clear ha
   by_cases hlt2:j<d.length+1
   ·have hjl:j<(d++[r]).length:=by rw[<-HN.out];exact hlt2
    obtain⟨a,ha,hb,hcl⟩:=hs1.cell hjl
    cases ha
    rw[str] at hcl
    rw[Go.WideShapes.add_plain,Nat.zero_add] at hcl
    by_cases he:(d++[r])[j]=[]
    ·have h1:=AqM he
     have HE:=hid he
     clear he
     go_wp2
     go_ret2
     have:(d++[r]).all (λx=>!x.isEmpty)=false:=by
      rw[List.all_eq_false]
      exact⟨_,List.getElem_mem hjl,by rw[HE.out];simp⟩
     rw[Ln.words,E.out.2,this]
     exact GivesList.mk (n:=0) (c:=0) (by omega) rfl rfl (Strs.nil _ _) hbel
    have h1:=AqN he
    have HE:=hid he
    clear he
    go_wp2
    go_round
    case rel=>exact⟨j+1,by omega,by go_num,by rw[AsK hjl,List.all_append,HA.out];simpa using HE.out⟩
    case measure=>simp[intOf];omega
   have:(d++[r]).all (λx=>!x.isEmpty)=true:=by
    have:=HA.out
    rwa [AsT (by rw[<-HN.out];omega)] at this
   have H2:=hid this
   clear this
   go_wp2
   go_ret2
   have hw:Ln.ws true s.data.toList=true:=by rw[E.out.2,H2.out]
   rw[Ln.words,hw,ArZ rfl,E.out.1]
   exact GivesList.mk hcap HN.out rfl hs1 hbel
theorem AqO {k:IntKind} {a b:Int} (h:a=b):Ending.returned (.int k a)=.returned (.int k b):=by rw[h]
theorem kZ {k:Int} (h1:k≠1) (h2:k≠2) (h3:k≠3) (h4:k≠4) (h5:k≠5) (h6:k≠6) (h7:k≠7) (h8:k≠8) (h9:k≠9):It.word k=[]:=by
 rw[It.word,ArY h1,ArY h2,ArY h3,ArY h4,ArY h5,ArY h6,ArY h7,ArY h8,ArY h9]
theorem gA {k n:Int} (h:k≠n):(k == n)=false:=by rw[ArU];exact h
theorem cZ (k:Int) (w:World) :
 Calls Tryz.prog 80 #[.int .i64 k] w λe w'=>e=.returned (.string (txt (It.word k)))/\w=w':=by
 by_cases h:k=1∨k=2∨k=3∨k=4∨k=5∨k=6∨k=7∨k=8∨k=9
 ·rcases h with rfl|rfl|rfl|rfl|rfl|rfl|rfl|rfl|rfl
  all_goals
   go_enter Tryz.func80,Tryz.ntmps80
   go_wp2
   go_ret
   exact⟨rfl,rfl⟩
 have H:=hid (show It.word k=[] from kZ (by omega) (by omega) (by omega) (by omega) (by omega) (by omega) (by omega) (by omega) (by omega))
 have h1:(k == 1)=false:=gA (by omega)
 have h2:(k == 2)=false:=gA (by omega)
 have h3:(k == 3)=false:=gA (by omega)
 have h4:(k == 4)=false:=gA (by omega)
 have h5:(k == 5)=false:=gA (by omega)
 have h6:(k == 6)=false:=gA (by omega)
 have h7:(k == 7)=false:=gA (by omega)
 have h8:(k == 8)=false:=gA (by omega)
 have h9:(k == 9)=false:=gA (by omega)
 clear h
 go_enter Tryz.func80,Tryz.ntmps80
 go_wp2
 go_ret
 exact⟨by rw[H.out];rfl,rfl⟩
theorem nF (k:Int):(It.word k).length<=8:=by
 unfold It.word;repeat (split;· decide)
 decide
theorem AqP {a:List UInt8} {s:ByteArray} (h:a=s.data.toList):((txt a).toList == s.toList)=true:=by
 rw[bK,ByteArray.toList_eq,h];simp
theorem AqQ {a:List UInt8} {s:ByteArray} (h:a≠s.data.toList):((txt a).toList == s.toList)=false:=by
 rw[bK,ByteArray.toList_eq];simpa using h
theorem AfT (s:ByteArray) (w:World) (_hs:s.size<=maxLen) :
 Calls Tryz.prog 45 #[.string s] w λe w'=>e=.returned (.int .i64 (It.kind s.data.toList))/\w=w':=by
 have C:=hid (λk w=>cZ k w)
 go_enter Tryz.func45,Tryz.ntmps45
 go_wp2
 go_loop [3] (λi=>∃ k:Nat,1<=k/\k<=10/\i=.int .i64 k/\∀ j:Nat,1<=j->j<k->It.word j≠s.data.toList) (λi=>10-(intOf i).toNat)
 case atStart=>exact⟨1,by omega,by omega,rfl,λj a b=>by omega⟩
 case round =>
  obtain⟨k,hk1,hk,rfl,hno⟩:=hrel
  have HN:=hid hno
  clear hno
  by_cases hlt:k<=9
  ·by_cases he:It.word k=s.data.toList
   ·have h1:=AqP he
    have HK:=hid (It.kind_hit hk1 hlt he)
    clear he
    go_wp2_with (go_at_call 80;refine(C.out _ _).mono ?_;rintro e w' ⟨rfl,rfl⟩)
    go_ret
    exact⟨AqO HK.out.symm,rfl⟩
   have h1:=AqQ he
   have HE:=hid he
   clear he
   go_wp2_with (go_at_call 80;refine(C.out _ _).mono ?_;rintro e w' ⟨rfl,rfl⟩)
   go_round
   case rel=>exact⟨k+1,by omega,by omega,by go_num,λj a b=>by
    by_cases hj:j=k
    ·subst hj;exact HE.out
    exact HN.out j a (by omega)⟩
   case measure=>simp[intOf];omega
  have HK:=hid (It.kind_none (l:=s.data.toList) λj a b=>HN.out j a (by omega))
  go_wp2
  go_ret
  exact⟨AqO HK.out.symm,rfl⟩
theorem rD (c:UInt8):It.letter c=(decide (c.toNat=97) || decide (c.toNat=98) || decide (c.toNat=116) || decide (c.toNat=110) || decide (c.toNat=114)):=by
 have e:∀ n:Nat,n<256->decide (c=UInt8.ofNat n)=decide (c.toNat=n):=λn h=>by
  rw[Bool.eq_iff_iff,AsC,AsC]
  constructor
  ·rintro rfl;rw[UInt8.toNat_ofNat'];omega
  intro e;apply UInt8.toNat_inj.mp;rw[UInt8.toNat_ofNat'];omega
 rw[<-e 97 (by omega),<-e 98 (by omega),<-e 116 (by omega),<-e 110 (by omega),<-e 114 (by omega)];rfl
theorem AjT {c:UInt8} {n:Nat} (h:c.toNat=n):((c.toNat:Int) == (n:Int))=true:=by subst h;simp
theorem iV {c:UInt8} {n:Nat} (h:c.toNat≠n):((c.toNat:Int) == (n:Int))=false:=by rw[ArU];omega
theorem AfU (c:UInt8) :
 (((c.toNat:Int) == 97)=true/\True/\True/\True/\True/\It.letter c=true) ∨
 (((c.toNat:Int) == 97)=false/\((c.toNat:Int) == 98)=true/\True/\True/\True/\It.letter c=true) ∨
 (((c.toNat:Int) == 97)=false/\((c.toNat:Int) == 98)=false/\((c.toNat:Int) == 116)=true/\True/\True/\It.letter c=true) ∨
 (((c.toNat:Int) == 97)=false/\((c.toNat:Int) == 98)=false/\((c.toNat:Int) == 116)=false/\((c.toNat:Int) == 110)=true/\True/\It.letter c=true) ∨
 (((c.toNat:Int) == 97)=false/\((c.toNat:Int) == 98)=false/\((c.toNat:Int) == 116)=false/\((c.toNat:Int) == 110)=false/\((c.toNat:Int) == 114)=true/\It.letter c=true) ∨
 (((c.toNat:Int) == 97)=false/\((c.toNat:Int) == 98)=false/\((c.toNat:Int) == 116)=false/\((c.toNat:Int) == 110)=false/\((c.toNat:Int) == 114)=false/\It.letter c=false):=by
 rw[rD]
 by_cases h1:c.toNat=97
 ·exact Or.inl ⟨AjT h1,trivial,trivial,trivial,trivial,by simp[h1]⟩
 by_cases h2:c.toNat=98
 ·exact Or.inr (Or.inl ⟨iV h1,AjT h2,trivial,trivial,trivial,by simp[h2]⟩)
 by_cases h3:c.toNat=116
 ·exact Or.inr (Or.inr (Or.inl ⟨iV h1,iV h2,AjT h3,trivial,trivial,by simp[h3]⟩))
 by_cases h4:c.toNat=110
 ·exact Or.inr (Or.inr (Or.inr (Or.inl ⟨iV h1,iV h2,iV h3,AjT h4,trivial,by simp[h4]⟩)))
 by_cases h5:c.toNat=114
 ·exact Or.inr (Or.inr (Or.inr (Or.inr (Or.inl ⟨iV h1,iV h2,iV h3,iV h4,AjT h5,by simp[h5]⟩))))
 exact Or.inr (Or.inr (Or.inr (Or.inr (Or.inr ⟨iV h1,iV h2,iV h3,iV h4,iV h5,by simp[h1,h2,h3,h4,h5]⟩))))
theorem wL (c:UInt8) (w:World) :
 Calls Tryz.prog 82 #[.int .u8 c.toNat] w λe w'=>e=.returned (.bool (It.letter c))/\w=w':=by
 have H:=hid (rD c)
 rcases AfU c with h|h|h|h|h|h
 all_goals
  obtain⟨h1,h2,h3,h4,h5,h6⟩:=h
  have H6:=hid h6
  clear h6
  go_enter Tryz.func82,Tryz.ntmps82
  go_wp2
  go_ret
  exact⟨mV H6.out.symm,rfl⟩
def sizeOf (k:Int):Int:=if k=1∨k=2∨k=3∨k=4∨k=8 then 2 else if k=5∨k=6∨k=7∨k=9 then 3 else 0
theorem AjU (k:Int) (w:World) (h0:1<=k) (h9:k<=6) :
 Calls Tryz.prog 47 #[.int .i64 k] w λe w'=>e=.returned (.tuple #[.int .i64 (It.least k),.int .i64 (It.most k)])/\w=w':=by
 obtain rfl|rfl|rfl|rfl|rfl|rfl:k=1∨k=2∨k=3∨k=4∨k=5∨k=6:=by omega
 all_goals
  clear h0 h9
  go_enter Tryz.func47,Tryz.ntmps47
  go_wp2
  go_ret2
  exact⟨rfl,rfl⟩
theorem AfV {s:ByteArray} (h:s.size<3):It.tipOk s.data.toList=false:=by
 have:s.data.toList.length=s.size:=by simp
 rw[It.tipOk,show decide (3<=s.data.toList.length)=false from aB (by omega)];rfl
theorem tJ {s:ByteArray} {k:Nat} (h:k<s.size):s.data.toList[k]?=some s[k]:=by
 rw[ArN (by simpa using h)];rfl
theorem AjV {s:ByteArray} (h:2<=s.size):It.tipOk s.data.toList=(decide (3<=s.size) && decide (s[s.size-2]=46) && It.letter s[s.size-1] && Fig.nameB (s.data.toList.take (s.size-2))):=by
 have e:s.data.toList.length=s.size:=by simp
 rw[It.tipOk,e,tJ (by omega:s.size-2<s.size),tJ (by omega:s.size-1<s.size)]
 simp
theorem fL (s:ByteArray) (k:Nat):s.extract 0 k=txt (s.data.toList.take k):=by
 apply ByteArray.ext
 simp[txt,ByteArray.data_extract]
 apply Array.ext'
 simp[Array.toList_extract]
theorem oG {l:List UInt8} (h:It.tipOk l=false):It.tip l=It.Tp.zero:=by rw[It.tip,h];rfl
theorem AnM {s:ByteArray} (h2:2<=s.size) (h:It.tipOk s.data.toList=true):It.tip s.data.toList=⟨s.data.toList.take (s.size-2),s[s.size-1]⟩:=by
 have e:s.data.toList.length=s.size:=by simp
 rw[It.tip,ArZ h,e,tJ (by omega:s.size-1<s.size)];rfl
theorem nG {l:List UInt8} (h:Fig.nameB l=true):1<=l.length/\l.length<=8:=by
 rw[Fig.nameB,AsF,AsC] at h;exact h.1
theorem AjW {t u:It.Tp} {b c:Bool} (h:t=u) (k:b=c):Ending.returned (.tuple #[.agg #[str t.n,.int .u8 t.c.toNat],.bool b])=.returned (.tuple #[.agg #[str u.n,.int .u8 u.c.toNat],.bool c]):=by rw[h,k]
theorem AjX (s:ByteArray) (h:2<=s.size) :
 (((s[s.size-2].toNat:Int) != 46)=true/\It.tipOk s.data.toList=false) ∨
 (((s[s.size-2].toNat:Int) != 46)=false/\It.letter s[s.size-1]=false/\It.tipOk s.data.toList=false) ∨
 (((s[s.size-2].toNat:Int) != 46)=false/\It.letter s[s.size-1]=true/\Fig.nameB (s.data.toList.take (s.size-2))=false/\It.tipOk s.data.toList=false) ∨
 (((s[s.size-2].toNat:Int) != 46)=false/\It.letter s[s.size-1]=true/\Fig.nameB (s.data.toList.take (s.size-2))=true/\It.tipOk s.data.toList=true/\3<=s.size):=by
 have e:=AjV h
 by_cases h46:s[s.size-2]=46
 ·have b46:((s[s.size-2].toNat:Int) != 46)=false:=by rw[h46];rfl
  rw[show decide (s[s.size-2]=46)=true from aC h46] at e
  cases hl:It.letter s[s.size-1]
  ·exact Or.inr (Or.inl ⟨b46,rfl,by rw[e,hl];simp⟩)
  cases hn:Fig.nameB (s.data.toList.take (s.size-2))
  ·exact Or.inr (Or.inr (Or.inl ⟨b46,rfl,rfl,by rw[e,hn];simp⟩))
  have:=nG hn
  have h3:3<=s.size:=by
   simp at this;omega
  exact Or.inr (Or.inr (Or.inr ⟨b46,rfl,rfl,by rw[e,hl,hn,aC h3];rfl,h3⟩))
 have b46:((s[s.size-2].toNat:Int) != 46)=true:=by
  rw[AsV]
  intro hc
  apply h46
  apply UInt8.toNat_inj.mp
  show s[s.size-2].toNat=46
  omega
 exact Or.inl ⟨b46,by rw[e,aB h46];simp⟩
theorem wM (s:ByteArray) (w:World) (hs:s.size<=maxLen) :
 Calls Tryz.prog 49 #[.string s] w λe w'=>e=.returned (.tuple #[.agg #[str (It.tip s.data.toList).n,.int .u8 (It.tip s.data.toList).c.toNat],.bool (It.tipOk s.data.toList)])/\Below w.heap.size w w':=by
 unfold maxLen at hs
 by_cases h2:s.size<3
 ·have h0:decide ((s.size:Int)<3)=true:=aC (by omega)
  have HO:=hid (AfV (s:=s) (by omega))
  have HT:=hid (oG HO.out)
  go_enter Tryz.func49,Tryz.ntmps49
  go_wp2_with fail
  exact bodyPost_ret (v:=.tuple #[.agg #[str It.Tp.zero.n,.int .u8 It.Tp.zero.c.toNat],.bool false]) (by simp[results,Tryz.results49,go_sem,str,txt,It.Tp.zero]) rfl ⟨AjW HT.out.symm HO.out.symm,(Below.refl _ _).alloc (ArR _) _⟩
 have h2':2<=s.size:=by omega
 have e1:s.size-2+1=s.size-1:=by omega
 have sz:(s.extract 0 (s.size-2)).size<=maxLen:=by rw[fL,bJ];unfold maxLen;simp;omega
 have L:=hid (λw=>by have:=wL s[s.size-1] w;exact this)
 have NM:=hid (λw=>by have:=qN (s.extract 0 (s.size-2)) w sz;rw[show (s.extract 0 (s.size-2)).data.toList=s.data.toList.take (s.size-2) by rw[fL,aT]] at this;exact this)
 clear sz
 rcases AjX s h2' with ⟨h46,ho⟩|⟨h46,hl,ho⟩|⟨h46,hl,hn,ho⟩|⟨h46,hl,hn,ho,h3⟩
 ·have HO:=hid ho
  have HT:=hid (oG ho)
  clear ho
  go_enter Tryz.func49,Tryz.ntmps49
  go_wp2_with fail
  exact bodyPost_ret (v:=.tuple #[.agg #[str It.Tp.zero.n,.int .u8 It.Tp.zero.c.toNat],.bool false]) (by simp[results,Tryz.results49,go_sem,str,txt,It.Tp.zero]) rfl ⟨AjW HT.out.symm HO.out.symm,(Below.refl _ _).alloc (ArR _) _⟩
 ·have HO:=hid ho
  have HT:=hid (oG ho)
  clear ho
  go_enter Tryz.func49,Tryz.ntmps49
  go_wp2_with fail
  refine(L.out _).mono ?_;rintro e w' ⟨rfl,rfl⟩
  go_wp2_with fail
  exact bodyPost_ret (v:=.tuple #[.agg #[str It.Tp.zero.n,.int .u8 It.Tp.zero.c.toNat],.bool false]) (by simp[results,Tryz.results49,go_sem,str,txt,It.Tp.zero]) rfl ⟨AjW HT.out.symm HO.out.symm,(Below.refl _ _).alloc (ArR _) _⟩
 ·have HO:=hid ho
  have HT:=hid (oG ho)
  clear ho
  go_enter Tryz.func49,Tryz.ntmps49
  go_wp2_with fail
  refine(L.out _).mono ?_;rintro e w' ⟨rfl,rfl⟩
  go_wp2_with fail
  refine(NM.out _).mono ?_;rintro e w' ⟨rfl,rfl⟩
  go_wp2_with fail
  exact bodyPost_ret (v:=.tuple #[.agg #[str It.Tp.zero.n,.int .u8 It.Tp.zero.c.toNat],.bool false]) (by simp[results,Tryz.results49,go_sem,str,txt,It.Tp.zero]) rfl ⟨AjW HT.out.symm HO.out.symm,(Below.refl _ _).alloc (ArR _) _⟩
 have HO:=hid ho
 have HT:=hid (AnM h2' ho)
 clear ho
 go_enter Tryz.func49,Tryz.ntmps49
 go_wp2_with fail
 refine(L.out _).mono ?_;rintro e w' ⟨rfl,rfl⟩
 go_wp2_with fail
 refine(NM.out _).mono ?_;rintro e w' ⟨rfl,rfl⟩
 go_wp2_with fail
 go_region
 go_wp2_with fail
 refine bodyPost_ret (v:=.tuple #[.agg #[.string (s.extract 0 (s.size-2)),.int .u8 s[s.size-1].toNat],.bool true]) (by simp[results,Tryz.results49,go_sem]) rfl ⟨?_,((Below.refl _ _).alloc (ArR _) _).drew⟩
 rw[fL];exact AjW HT.out.symm HO.out.symm
theorem AjY (nm:ByteArray) (c:UInt8):(nm++(⟨#[46]⟩:ByteArray))++(⟨#[c]⟩:ByteArray)=txt (It.tipT ⟨nm.data.toList,c⟩):=by
 rw[It.tipT,<-gY,<-gY,iR];rfl
theorem jS (nm:ByteArray) (c:UInt8) (w:World) (hs:nm.size<=1000000) :
 Calls Tryz.prog 84 #[.agg #[.string nm,.int .u8 c.toNat]] w λe w'=>e=.returned (.string (txt (It.tipT ⟨nm.data.toList,c⟩)))/\Below w.heap.size w w':=by
 have hA:=nV ((w.alloc (.cells #[.string nm,.int .u8 c.toNat] 64)).alloc (.cells #[.int .u8 c.toNat] 5)) (w.heap.size+1) (c.toNat:Int) (by go_simp)
 have H:=hid (AjY nm c)
 go_enter Tryz.func84,Tryz.ntmps84
 go_wp2
 go_ret
 exact⟨AiV H.out,((Below.refl _ _).alloc (ArR _) _).alloc (by simp) _⟩
def ofV (k:Int) (nm:ByteArray) (n:Int) (a:ByteArray) (ac:UInt8) (b:ByteArray) (bc:UInt8):It.Itm:=⟨k,nm.data.toList,n,⟨a.data.toList,ac⟩,⟨b.data.toList,bc⟩⟩
theorem rE {k:Int} (h:It.isNum k=true) (nm:ByteArray) (n:Int) (a:ByteArray) (ac:UInt8) (b:ByteArray) (bc:UInt8):It.print (ofV k nm n a ac b bc)=Ln.line (It.word k :: [Lib.decDigits n.toNat]):=by
 simp[It.print,It.args,ofV,h]
theorem tK {n:Int} (h0:0<=n) (h1:n<=9223372036854775807):(Lib.decDigits n.toNat).length<=20:=by rw[Lib.decDigits_length];exact Lib.nDigits_le20 _ (by omega)
theorem wN (k:Int) (x:List UInt8) (h:x.length<=5000):(Ln.line (It.word k :: [x])).length<=10000000:=by
 have:=nF k
 simp[Ln.line,Lib.join];omega
theorem oH (k:Int) (x y:List UInt8) (h:x.length<=5000) (h2:y.length<=5000):(Ln.line (It.word k :: [x,y])).length<=10000000:=by
 have:=nF k
 simp[Ln.line,Lib.join];omega
theorem AfW {a b:List UInt8} (h:a=b):Ending.returned (.string (txt a))=.returned (.string (txt b)):=by rw[h]
def Made (w:World) (v:Value) (W:World) (e:Ending) (w':World):Prop:=e=.returned v/\Below W.heap.size W w'/\Below w.heap.size w w'/\W.heap.size<=w'.heap.size
theorem Made.of {w W:World} {v:Value} {f:FuncId} {xs:Array Value} (h:Below w.heap.size w W) (hc:Calls Tryz.prog f xs W λe w'=>e=.returned v/\Below W.heap.size W w') :
 Calls Tryz.prog f xs W (Made w v W):=hc.mono λ_ _ ⟨h1,h2⟩=>⟨h1,h2,h.trans (h2.mono h.size),h2.size⟩
theorem Made.line {w W:World} {o:Obj} {v:Value} {f:FuncId} {xs:Array Value} (h:Below w.heap.size w W) (hc:Calls Tryz.prog f xs (W.alloc o) λe w'=>e=.returned v/\Below W.heap.size W w') :
 Calls Tryz.prog f xs (W.alloc o) (Made w v W):=hc.mono λ_ _ ⟨h1,h2⟩=>⟨h1,h2,h.trans (h2.mono h.size),h2.size⟩
theorem AjZ {k:Int} (h:It.isNum k=true):(k == 1)=true∨((k == 1)=false/\(k == 2)=true)∨((k == 1)=false/\(k == 2)=false/\(k == 3)=true)∨((k == 1)=false/\(k == 2)=false/\(k == 3)=false/\(k == 4)=true):=by
 have h':k=1∨k=2∨k=3∨k=4:=by simp[It.isNum] at h;omega
 rcases h' with rfl|rfl|rfl|rfl <;> decide
theorem rF {k:Int} (h1:It.isNum k=false) (h:It.isLen k=true) (nm:ByteArray) (n:Int) (a:ByteArray) (ac:UInt8) (b:ByteArray) (bc:UInt8):It.print (ofV k nm n a ac b bc)=Ln.line (It.word k :: [nm.data.toList,Lib.decDigits n.toNat]):=by
 simp[It.print,It.args,ofV,h,h1]
theorem AdP (nm:ByteArray) (n:Int) (a:ByteArray) (ac:UInt8) (b:ByteArray) (bc:UInt8):It.print (ofV 7 nm n a ac b bc)=Ln.line (It.word 7 :: [It.tipT ⟨a.data.toList,ac⟩,It.tipT ⟨b.data.toList,bc⟩]):=rfl
theorem AdQ (nm:ByteArray) (n:Int) (a:ByteArray) (ac:UInt8) (b:ByteArray) (bc:UInt8):It.print (ofV 8 nm n a ac b bc)=Ln.line (It.word 8 :: [It.tipT ⟨a.data.toList,ac⟩]):=rfl
theorem AdR (nm:ByteArray) (n:Int) (a:ByteArray) (ac:UInt8) (b:ByteArray) (bc:UInt8):It.print (ofV 9 nm n a ac b bc)=Ln.line (It.word 9 :: [nm.data.toList,It.tipT ⟨a.data.toList,ac⟩]):=rfl
theorem nH (a:ByteArray) (ac:UInt8) (h:a.size<=1000):(It.tipT ⟨a.data.toList,ac⟩).length<=5000:=by
 simp[It.tipT];omega
theorem AkA {k:Int} (h:It.isLen k=true):(k == 1)=false/\(k == 2)=false/\(k == 3)=false/\(k == 4)=false/\((k == 5)=true∨((k == 5)=false/\(k == 6)=true)):=by
 have h':k=5∨k=6:=by simp[It.isLen] at h;omega
 rcases h' with rfl|rfl <;> decide
theorem tL {k:Int} (h:It.isLen k=true):It.isNum k=false:=by
 simp[It.isLen] at h;simp[It.isNum];omega
theorem AoX (k:Int) (nm:ByteArray) (n:Int) (a:ByteArray) (ac:UInt8) (b:ByteArray) (bc:UInt8) (h:¬ (1<=k/\k<=9)):It.print (ofV k nm n a ac b bc)=[]:=by
 have h1:It.isNum k=false:=by simp[It.isNum];omega
 have h2:It.isLen k=false:=by simp[It.isLen];omega
 have h3:It.word k=[]:=kZ (by omega) (by omega) (by omega) (by omega) (by omega) (by omega) (by omega) (by omega) (by omega)
 simp[It.print,It.args,ofV,h1,h2,h3,show ¬ k=7 by omega,show ¬ k=8 by omega,show ¬ k=9 by omega,Ln.line,Lib.join]
abbrev itO (k:Int) (nm:ByteArray) (n:Int) (a:ByteArray) (ac:UInt8) (b:ByteArray) (bc:UInt8):Obj:=.cells #[.int .i64 k,.string nm,.int .i64 n,.string a,.int .u8 ac.toNat,.string b,.int .u8 bc.toNat] 67
theorem aA {w w':World} {base:Nat} {e:TypeId} {size:Nat} {v:Value} {n:Nat} {xs:List Value} (h:w.ownsRow base e size v n xs) (hb:Below w.heap.size w w'):w'.ownsRow base e size v n xs:=by
 refine⟨h.1,?_⟩
 rcases h.2 with hn|⟨g,cap,cur,rfl,hbb,hgg,rest⟩
 ·exact .inl hn
 exact .inr ⟨g,cap,cur,rfl,hbb,by rw[hb.block g (ArL hgg).1];exact hgg,rest⟩
theorem oI (n:Int) (w:World) (h0:0<=n) (h1:n<=9223372036854775807) :
 Calls Tryz.prog 83 #[.int .i64 n] w λe w'=>e=.returned (.string (txt (Lib.decDigits n.toNat)))/\Below w.heap.size w w':=zW n.toNat n w h0 (by omega) h1
theorem dW (x:List UInt8) (T:List (List UInt8)) (w:World) (base:Nat) (v:Value) (n:Nat) (xs:List Value) (h:w.ownsRow base 9 1 v n xs) (hx:xs=(x :: T).map str) (hT:T.length<=2) (hl:(Ln.line (x :: T)).length<=10000000) :
 Calls Tryz.prog 85 #[v] w λe w'=>e=.returned (.string (txt (Ln.line (x :: T))))/\w=w':=by
 subst hx
 obtain⟨hn2,A4,c4,rfl,hcap2,hs2⟩:=Strs.of_own h
 have:=AfS A4 c4 (x :: T) w hs2 (by simp;omega) hl
 rwa [<-hn2] at this
theorem wO (k:Int) (hk:It.isNum k=true) (nm:ByteArray) (n:Int) (a:ByteArray) (ac:UInt8) (b:ByteArray) (bc:UInt8) (w:World) (h0:0<=n) (h1:n<=9223372036854775807) :
 Calls Tryz.prog 50 #[.agg #[.int .i64 k,.string nm,.int .i64 n,.string a,.int .u8 ac.toNat,.string b,.int .u8 bc.toNat]] w λe w'=>e=.returned (.string (txt (It.print (ofV k nm n a ac b bc))))/\Below w.heap.size w w':=by
 have HP:=hid (rE hk nm n a ac b bc)
 have hV:=hid (((AtB w).alloc (ArR _) (itO k nm n a ac b bc)).alloc (by simp) (.cells #[.string (txt (It.word k))] 9))
 have hV2:=hid (show w.heap.size<=((w.alloc (itO k nm n a ac b bc)).alloc (.cells #[.string (txt (It.word k))] 9)).heap.size by simp;omega)
 have HO:=hid (λW (h:Below ((w.alloc (itO k nm n a ac b bc)).alloc (.cells #[.string (txt (It.word k))] 9)).heap.size ((w.alloc (itO k nm n a ac b bc)).alloc (.cells #[.string (txt (It.word k))] 9)) W)=>show W.ownsRow w.heap.size 9 1 (.slice (some ⟨w.heap.size+1,0,none⟩) 1 1) 1 [.string (txt (It.word k))] from by
  have:=aA (World.ownsRow_lit (base:=w.heap.size) (e:=9) (size:=1) (w.alloc (itO k nm n a ac b bc)) #[.string (txt (It.word k))] 1 (by simp) (by unfold maxLen;omega) rfl) h
  rwa [show (w.alloc (itO k nm n a ac b bc)).heap.size=w.heap.size+1 by simp] at this)
 have C:=hid (λw=>cZ k w)
 obtain⟨i0,hi,hz0,hz1,hz2⟩:=info_parts eQ
 have HF:=hid (λW (h:Below ((w.alloc (itO k nm n a ac b bc)).alloc (.cells #[.string (txt (It.word k))] 9)).heap.size ((w.alloc (itO k nm n a ac b bc)).alloc (.cells #[.string (txt (It.word k))] 9)) W)=>Made.of h (oI n W h0 h1))
 have HL:=hid (λW v m0 xs (h:World.ownsRow W w.heap.size 9 1 v m0 xs) (hx:xs=([It.word k,Lib.decDigits n.toNat]:List (List UInt8)).map str)=>dW (It.word k) [Lib.decDigits n.toNat] W w.heap.size v m0 xs h hx (by simp) (wN k _ (ArS (tK h0 h1) (by decide))))
 have hk':=AjZ hk
 clear hk h0 h1
 rcases hk' with e1|⟨e1,e2⟩|⟨e1,e2,e3⟩|⟨e1,e2,e3,e4⟩
 all_goals
  go_enter Tryz.func50,Tryz.ntmps50
  go_wp2_with fail
  refine(C.out _).mono ?_;rintro e w0 ⟨rfl,rfl⟩
  go_wp2_with fail
  refine(HF.out _ (Below.refl _ _)).mono ?_;rintro e w2 ⟨rfl,hb,hacc,hz⟩;have hcell:=(bcell hb).1;have hz:w.heap.size+1<w2.heap.size:=by ((try simp at hz);omega)
  go_wp2_with (at_builtin;go_loud (refine wpList_append_own _ rfl (.tmp 15) (.tmp 19) 29 rfl w.heap.size 9 i0 (.string ByteArray.empty) 1 16 Tryz.underlying29 hi hz0 hz1 hz2 rfl (by decide) _ _ _ rfl ((HO.out _ hacc).alloc _) ⟨w2.heap.size,0,none⟩ 1 1 [.string (txt (Lib.decDigits n.toNat))] rfl rfl (cell_one_new _ _ _) (λx hx=>by simp at hx;subst hx;rfl) (by unfold maxLen;omega) (by omega) (by simp;omega) ?_;intro v1 w3 hown1 hg1 _))
  have hbF:=hid (((hV.out.trans (hacc.mono hV2.out)).alloc (by omega) _).grown hg1 (by simp;omega) (λg hg=>(((HO.out _ hacc).alloc (.cells #[.string (txt (Lib.decDigits n.toNat))] 9)).lt g hg).1))
  have LL:=hid (HL.out _ _ _ _ hown1 (by first|(simp[str];done)|simp[str,iR]))
  clear hown1 hg1 HO HL hV hV2
  go_wp2_with fail
  refine LL.out.mono ?_;rintro e w9 ⟨rfl,rfl⟩
  go_wp2
  go_ret
  exact⟨AfW HP.out.symm,hbF.out⟩
theorem wP (k:Int) (hk:It.isLen k=true) (nm:ByteArray) (n:Int) (a:ByteArray) (ac:UInt8) (b:ByteArray) (bc:UInt8) (w:World) (h0:0<=n) (h1:n<=9223372036854775807) (hn:nm.size<=1000) :
 Calls Tryz.prog 50 #[.agg #[.int .i64 k,.string nm,.int .i64 n,.string a,.int .u8 ac.toNat,.string b,.int .u8 bc.toNat]] w λe w'=>e=.returned (.string (txt (It.print (ofV k nm n a ac b bc))))/\Below w.heap.size w w':=by
 have HP:=hid (rF (tL hk) hk nm n a ac b bc)
 have hV:=hid (((AtB w).alloc (ArR _) (itO k nm n a ac b bc)).alloc (by simp) (.cells #[.string (txt (It.word k))] 9))
 have hV2:=hid (show w.heap.size<=((w.alloc (itO k nm n a ac b bc)).alloc (.cells #[.string (txt (It.word k))] 9)).heap.size by simp;omega)
 have HO:=hid (λW (h:Below ((w.alloc (itO k nm n a ac b bc)).alloc (.cells #[.string (txt (It.word k))] 9)).heap.size ((w.alloc (itO k nm n a ac b bc)).alloc (.cells #[.string (txt (It.word k))] 9)) W)=>show W.ownsRow w.heap.size 9 1 (.slice (some ⟨w.heap.size+1,0,none⟩) 1 1) 1 [.string (txt (It.word k))] from by
  have:=aA (World.ownsRow_lit (base:=w.heap.size) (e:=9) (size:=1) (w.alloc (itO k nm n a ac b bc)) #[.string (txt (It.word k))] 1 (by simp) (by unfold maxLen;omega) rfl) h
  rwa [show (w.alloc (itO k nm n a ac b bc)).heap.size=w.heap.size+1 by simp] at this)
 have C:=hid (λw=>cZ k w)
 obtain⟨i0,hi,hz0,hz1,hz2⟩:=info_parts eQ
 have HF:=hid (λW (h:Below ((w.alloc (itO k nm n a ac b bc)).alloc (.cells #[.string (txt (It.word k))] 9)).heap.size ((w.alloc (itO k nm n a ac b bc)).alloc (.cells #[.string (txt (It.word k))] 9)) W)=>Made.of h (oI n W h0 h1))
 have HL:=hid (λW v m0 xs (h:World.ownsRow W w.heap.size 9 1 v m0 xs) (hx:xs=([It.word k,nm.data.toList,Lib.decDigits n.toNat]:List (List UInt8)).map str)=>dW (It.word k) [nm.data.toList,Lib.decDigits n.toNat] W w.heap.size v m0 xs h hx (by simp) (oH k _ _ (by simp;omega) (ArS (tK h0 h1) (by decide))))
 obtain⟨e1,e2,e3,e4,hk'⟩:=AkA hk
 clear hk h0 h1 hn
 rcases hk' with e5|⟨e5,e6⟩
 all_goals
  go_enter Tryz.func50,Tryz.ntmps50
  go_wp2_with fail
  refine(C.out _).mono ?_;rintro e w0 ⟨rfl,rfl⟩
  go_wp2_with fail
  go_region_held3 (λw'=>w'.cell? ⟨w.heap.size,1,none⟩=some (.string nm)/\w'.cell? ⟨w.heap.size,2,none⟩=some (.int .i64 n))
   (refine⟨?_,?_⟩ <;> (go_keep;done))
   (first
    | (go_at_call 83;(with_reducible refine(HF.out _ (Below.refl _ _).drew).mono ?_);rintro e w2 ⟨rfl,hb,hacc,hz⟩;have hcell:=λo=>hb.cell (p:=⟨w.heap.size,o,none⟩) (by first|(simp;done)|((try simp);omega));have hz:w.heap.size+1<w2.heap.size:=by ((try simp at hz);omega))
    | (refine step_append_lies _ (by rfl) (.tmp 24) (.tmp 30) 29 (by rfl) w.heap.size 9 i0 (.string ByteArray.empty) 1 16 Tryz.underlying29 hi hz0 hz1 hz2 rfl (by omega) (.slice (some ⟨w.heap.size+1,0,none⟩) 1 1) 1 _ (by rfl) ((HO.out _ hacc).alloc _) ⟨w2.heap.size,0,none⟩ 2 2 [.string nm,.string (txt (Lib.decDigits n.toNat))] (by rfl) (by rfl) (World.news_of_block (AsW w2 (.cells #[.string nm,.string (txt (Lib.decDigits n.toNat))] 9))) (by simp[Value.oneCell']) (by omega) (by unfold maxLen;omega) (by omega) (by simp;omega) (w2.heap.size+1) (by simp) ?_;intro gg cap w3 hown1 hg1 hat hlt;have hbF:=hid (((hV.out.trans (hacc.mono hV2.out)).alloc (by omega) (.cells #[.string nm,.string (txt (Lib.decDigits n.toNat))] 9)).grown hg1 (by simp;omega) (λg hg=>(((HO.out _ hacc).alloc (.cells #[.string nm,.string (txt (Lib.decDigits n.toNat))] 9)).lt g hg).1));have hcell2:=λo=>hg1.cell_far ⟨w.heap.size,o,none⟩ (by simp;omega) (by simp[Value.ownBlock])))
  all_goals
   have LL:=hid (HL.out _ _ _ _ hown1 (by first|(simp[str];done)|simp[str,iR]))
   clear hown1 hg1
   go_wp2_with fail
   refine LL.out.mono ?_;rintro e w9 ⟨rfl,rfl⟩
   go_wp2
   go_ret
   exact⟨AfW HP.out.symm,hbF.out⟩
theorem AfX (nm:ByteArray) (n:Int) (a:ByteArray) (ac:UInt8) (b:ByteArray) (bc:UInt8) (w:World) (ha:a.size<=1000) (hb:b.size<=1000) :
 Calls Tryz.prog 50 #[.agg #[.int .i64 7,.string nm,.int .i64 n,.string a,.int .u8 ac.toNat,.string b,.int .u8 bc.toNat]] w λe w'=>e=.returned (.string (txt (It.print (ofV 7 nm n a ac b bc))))/\Below w.heap.size w w':=by
 have HP:=hid (AdP nm n a ac b bc)
 have hV:=hid (((AtB w).alloc (ArR _) (itO 7 nm n a ac b bc)).alloc (by simp) (.cells #[.string (txt (It.word 7))] 9))
 have hV2:=hid (show w.heap.size<=((w.alloc (itO 7 nm n a ac b bc)).alloc (.cells #[.string (txt (It.word 7))] 9)).heap.size by simp;omega)
 have HO:=hid (λW (h:Below ((w.alloc (itO 7 nm n a ac b bc)).alloc (.cells #[.string (txt (It.word 7))] 9)).heap.size ((w.alloc (itO 7 nm n a ac b bc)).alloc (.cells #[.string (txt (It.word 7))] 9)) W)=>show W.ownsRow w.heap.size 9 1 (.slice (some ⟨w.heap.size+1,0,none⟩) 1 1) 1 [.string (txt (It.word 7))] from by
  have:=aA (World.ownsRow_lit (base:=w.heap.size) (e:=9) (size:=1) (w.alloc (itO 7 nm n a ac b bc)) #[.string (txt (It.word 7))] 1 (by simp) (by unfold maxLen;omega) rfl) h
  rwa [show (w.alloc (itO 7 nm n a ac b bc)).heap.size=w.heap.size+1 by simp] at this)
 have C:=hid (λw=>cZ 7 w)
 obtain⟨i0,hi,hz0,hz1,hz2⟩:=info_parts eQ
 have HA:=hid (λW (h:Below ((w.alloc (itO 7 nm n a ac b bc)).alloc (.cells #[.string (txt (It.word 7))] 9)).heap.size ((w.alloc (itO 7 nm n a ac b bc)).alloc (.cells #[.string (txt (It.word 7))] 9)) W)=>Made.of h (jS a ac W (by omega)))
 have HB:=hid (λW (h:Below ((w.alloc (itO 7 nm n a ac b bc)).alloc (.cells #[.string (txt (It.word 7))] 9)).heap.size ((w.alloc (itO 7 nm n a ac b bc)).alloc (.cells #[.string (txt (It.word 7))] 9)) W)=>Made.of h (jS b bc W (by omega)))
 have HL:=hid (λW v m0 xs (h:World.ownsRow W w.heap.size 9 1 v m0 xs) (hx:xs=([It.word 7,It.tipT ⟨a.data.toList,ac⟩,It.tipT ⟨b.data.toList,bc⟩]:List (List UInt8)).map str)=>dW (It.word 7) [It.tipT ⟨a.data.toList,ac⟩,It.tipT ⟨b.data.toList,bc⟩] W w.heap.size v m0 xs h hx (by simp) (oH 7 _ _ (nH a ac ha) (nH b bc hb)))
 clear ha hb
 go_enter Tryz.func50,Tryz.ntmps50
 go_wp2_with fail
 refine(C.out _).mono ?_;rintro e w0 ⟨rfl,rfl⟩
 go_wp2_with fail
 go_region_held3 (λw'=>w'.cell? ⟨w.heap.size,3,none⟩=some (.string a)/\w'.cell? ⟨w.heap.size,4,none⟩=some (.int .u8 ac.toNat)/\w'.cell? ⟨w.heap.size,5,none⟩=some (.string b)/\w'.cell? ⟨w.heap.size,6,none⟩=some (.int .u8 bc.toNat))
  (refine⟨?_,?_,?_,?_⟩ <;> (go_keep;done))
  (first
   | (go_at_call 84;(with_reducible refine(HA.out _ hacc).mono ?_);rintro e w2 ⟨rfl,hb,hacc,hz⟩;have hcell:=λo=>hb.cell (p:=⟨w.heap.size,o,none⟩) (by first|(simp;done)|((try simp);omega));have hz:w.heap.size+1<w2.heap.size:=by ((try simp at hz);omega))
   | (go_at_call 84;(with_reducible refine(HB.out _ hacc).mono ?_);rintro e w2 ⟨rfl,hb,hacc,hz⟩;have hcell:=λo=>hb.cell (p:=⟨w.heap.size,o,none⟩) (by first|(simp;done)|((try simp);omega));have hz:w.heap.size+1<w2.heap.size:=by ((try simp at hz);omega))
   | (go_at_call 84;(with_reducible refine(HA.out _ (Below.refl _ _).drew).mono ?_);rintro e w2 ⟨rfl,hb,hacc,hz⟩;have hcell:=λo=>hb.cell (p:=⟨w.heap.size,o,none⟩) (by first|(simp;done)|((try simp);omega));have hz:w.heap.size+1<w2.heap.size:=by ((try simp at hz);omega))
   | (go_at_call 84;(with_reducible refine(HB.out _ (Below.refl _ _).drew).mono ?_);rintro e w2 ⟨rfl,hb,hacc,hz⟩;have hcell:=λo=>hb.cell (p:=⟨w.heap.size,o,none⟩) (by first|(simp;done)|((try simp);omega));have hz:w.heap.size+1<w2.heap.size:=by ((try simp at hz);omega))
   | (refine step_append_lies _ (by rfl) (.tmp 54) (.tmp 63) 29 (by rfl) w.heap.size 9 i0 (.string ByteArray.empty) 1 16 Tryz.underlying29 hi hz0 hz1 hz2 rfl (by omega) (.slice (some ⟨w.heap.size+1,0,none⟩) 1 1) 1 _ (by rfl) ((HO.out _ hacc).alloc _) ⟨w2.heap.size,0,none⟩ 2 2 [.string (txt (It.tipT ⟨a.data.toList,ac⟩)),.string (txt (It.tipT ⟨b.data.toList,bc⟩))] (by rfl) (by rfl) (World.news_of_block (AsW w2 (.cells #[.string (txt (It.tipT ⟨a.data.toList,ac⟩)),.string (txt (It.tipT ⟨b.data.toList,bc⟩))] 9))) (by simp[Value.oneCell']) (by omega) (by unfold maxLen;omega) (by omega) (by simp;omega) (w2.heap.size+1) (by simp) ?_;intro gg cap w3 hown1 hg1 hat hlt;have hbF:=hid (((hV.out.trans (hacc.mono hV2.out)).alloc (by omega) (.cells #[.string (txt (It.tipT ⟨a.data.toList,ac⟩)),.string (txt (It.tipT ⟨b.data.toList,bc⟩))] 9)).grown hg1 (by simp;omega) (λg hg=>(((HO.out _ hacc).alloc (.cells #[.string (txt (It.tipT ⟨a.data.toList,ac⟩)),.string (txt (It.tipT ⟨b.data.toList,bc⟩))] 9)).lt g hg).1));have hcell2:=λo=>hg1.cell_far ⟨w.heap.size,o,none⟩ (by simp;omega) (by simp[Value.ownBlock])))
 all_goals
  have LL:=hid (HL.out _ _ _ _ hown1 (by first|(simp[str];done)|simp[str,iR]))
  clear hown1 hg1
  go_wp2_with fail
  refine LL.out.mono ?_;rintro e w9 ⟨rfl,rfl⟩
  go_wp2
  go_ret
  exact⟨AfW HP.out.symm,hbF.out⟩
theorem AfY (nm:ByteArray) (n:Int) (a:ByteArray) (ac:UInt8) (b:ByteArray) (bc:UInt8) (w:World) (hn:nm.size<=1000) (ha:a.size<=1000) :
 Calls Tryz.prog 50 #[.agg #[.int .i64 9,.string nm,.int .i64 n,.string a,.int .u8 ac.toNat,.string b,.int .u8 bc.toNat]] w λe w'=>e=.returned (.string (txt (It.print (ofV 9 nm n a ac b bc))))/\Below w.heap.size w w':=by
 have HP:=hid (AdR nm n a ac b bc)
 have hV:=hid (((AtB w).alloc (ArR _) (itO 9 nm n a ac b bc)).alloc (by simp) (.cells #[.string (txt (It.word 9))] 9))
 have hV2:=hid (show w.heap.size<=((w.alloc (itO 9 nm n a ac b bc)).alloc (.cells #[.string (txt (It.word 9))] 9)).heap.size by simp;omega)
 have HO:=hid (λW (h:Below ((w.alloc (itO 9 nm n a ac b bc)).alloc (.cells #[.string (txt (It.word 9))] 9)).heap.size ((w.alloc (itO 9 nm n a ac b bc)).alloc (.cells #[.string (txt (It.word 9))] 9)) W)=>show W.ownsRow w.heap.size 9 1 (.slice (some ⟨w.heap.size+1,0,none⟩) 1 1) 1 [.string (txt (It.word 9))] from by
  have:=aA (World.ownsRow_lit (base:=w.heap.size) (e:=9) (size:=1) (w.alloc (itO 9 nm n a ac b bc)) #[.string (txt (It.word 9))] 1 (by simp) (by unfold maxLen;omega) rfl) h
  rwa [show (w.alloc (itO 9 nm n a ac b bc)).heap.size=w.heap.size+1 by simp] at this)
 have C:=hid (λw=>cZ 9 w)
 obtain⟨i0,hi,hz0,hz1,hz2⟩:=info_parts eQ
 have HA:=hid (λW (h:Below ((w.alloc (itO 9 nm n a ac b bc)).alloc (.cells #[.string (txt (It.word 9))] 9)).heap.size ((w.alloc (itO 9 nm n a ac b bc)).alloc (.cells #[.string (txt (It.word 9))] 9)) W)=>Made.of h (jS a ac W (by omega)))
 have HL:=hid (λW v m0 xs (h:World.ownsRow W w.heap.size 9 1 v m0 xs) (hx:xs=([It.word 9,nm.data.toList,It.tipT ⟨a.data.toList,ac⟩]:List (List UInt8)).map str)=>dW (It.word 9) [nm.data.toList,It.tipT ⟨a.data.toList,ac⟩] W w.heap.size v m0 xs h hx (by simp) (oH 9 _ _ (by simp;omega) (nH a ac ha)))
 clear ha hn
 go_enter Tryz.func50,Tryz.ntmps50
 go_wp2_with fail
 refine(C.out _).mono ?_;rintro e w0 ⟨rfl,rfl⟩
 go_wp2_with fail
 go_region_held3 (λw'=>w'.cell? ⟨w.heap.size,1,none⟩=some (.string nm)/\w'.cell? ⟨w.heap.size,3,none⟩=some (.string a)/\w'.cell? ⟨w.heap.size,4,none⟩=some (.int .u8 ac.toNat))
  (refine⟨?_,?_,?_⟩ <;> (go_keep;done))
  (first
   | (go_at_call 84;(with_reducible refine(HA.out _ (Below.refl _ _).drew).mono ?_);rintro e w2 ⟨rfl,hb,hacc,hz⟩;have hcell:=λo=>hb.cell (p:=⟨w.heap.size,o,none⟩) (by first|(simp;done)|((try simp);omega));have hz:w.heap.size+1<w2.heap.size:=by ((try simp at hz);omega))
   | (refine step_append_lies _ (by rfl) (.tmp 34) (.tmp 41) 29 (by rfl) w.heap.size 9 i0 (.string ByteArray.empty) 1 16 Tryz.underlying29 hi hz0 hz1 hz2 rfl (by omega) (.slice (some ⟨w.heap.size+1,0,none⟩) 1 1) 1 _ (by rfl) ((HO.out _ hacc).alloc _) ⟨w2.heap.size,0,none⟩ 2 2 [.string nm,.string (txt (It.tipT ⟨a.data.toList,ac⟩))] (by rfl) (by rfl) (World.news_of_block (AsW w2 (.cells #[.string nm,.string (txt (It.tipT ⟨a.data.toList,ac⟩))] 9))) (by simp[Value.oneCell']) (by omega) (by unfold maxLen;omega) (by omega) (by simp;omega) (w2.heap.size+1) (by simp) ?_;intro gg cap w3 hown1 hg1 hat hlt;have hbF:=hid (((hV.out.trans (hacc.mono hV2.out)).alloc (by omega) (.cells #[.string nm,.string (txt (It.tipT ⟨a.data.toList,ac⟩))] 9)).grown hg1 (by simp;omega) (λg hg=>(((HO.out _ hacc).alloc (.cells #[.string nm,.string (txt (It.tipT ⟨a.data.toList,ac⟩))] 9)).lt g hg).1));have hcell2:=λo=>hg1.cell_far ⟨w.heap.size,o,none⟩ (by simp;omega) (by simp[Value.ownBlock])))
 all_goals
  have LL:=hid (HL.out _ _ _ _ hown1 (by first|(simp[str];done)|simp[str,iR]))
  clear hown1 hg1
  go_wp2_with fail
  refine LL.out.mono ?_;rintro e w9 ⟨rfl,rfl⟩
  go_wp2
  go_ret
  exact⟨AfW HP.out.symm,hbF.out⟩
theorem AfZ (nm:ByteArray) (n:Int) (a:ByteArray) (ac:UInt8) (b:ByteArray) (bc:UInt8) (w:World) (ha:a.size<=1000) :
 Calls Tryz.prog 50 #[.agg #[.int .i64 8,.string nm,.int .i64 n,.string a,.int .u8 ac.toNat,.string b,.int .u8 bc.toNat]] w λe w'=>e=.returned (.string (txt (It.print (ofV 8 nm n a ac b bc))))/\Below w.heap.size w w':=by
 have HP:=hid (AdQ nm n a ac b bc)
 have hV:=hid (((AtB w).alloc (ArR _) (itO 8 nm n a ac b bc)).alloc (by simp) (.cells #[.string (txt (It.word 8))] 9))
 have hV2:=hid (show w.heap.size<=((w.alloc (itO 8 nm n a ac b bc)).alloc (.cells #[.string (txt (It.word 8))] 9)).heap.size by simp;omega)
 have HO:=hid (λW (h:Below ((w.alloc (itO 8 nm n a ac b bc)).alloc (.cells #[.string (txt (It.word 8))] 9)).heap.size ((w.alloc (itO 8 nm n a ac b bc)).alloc (.cells #[.string (txt (It.word 8))] 9)) W)=>show W.ownsRow w.heap.size 9 1 (.slice (some ⟨w.heap.size+1,0,none⟩) 1 1) 1 [.string (txt (It.word 8))] from by
  have:=aA (World.ownsRow_lit (base:=w.heap.size) (e:=9) (size:=1) (w.alloc (itO 8 nm n a ac b bc)) #[.string (txt (It.word 8))] 1 (by simp) (by unfold maxLen;omega) rfl) h
  rwa [show (w.alloc (itO 8 nm n a ac b bc)).heap.size=w.heap.size+1 by simp] at this)
 have C:=hid (λw=>cZ 8 w)
 obtain⟨i0,hi,hz0,hz1,hz2⟩:=info_parts eQ
 have HF:=hid (λW (h:Below ((w.alloc (itO 8 nm n a ac b bc)).alloc (.cells #[.string (txt (It.word 8))] 9)).heap.size ((w.alloc (itO 8 nm n a ac b bc)).alloc (.cells #[.string (txt (It.word 8))] 9)) W)=>Made.of h (jS a ac W (by omega)))
 have HL:=hid (λW v m0 xs (h:World.ownsRow W w.heap.size 9 1 v m0 xs) (hx:xs=([It.word 8,It.tipT ⟨a.data.toList,ac⟩]:List (List UInt8)).map str)=>dW (It.word 8) [It.tipT ⟨a.data.toList,ac⟩] W w.heap.size v m0 xs h hx (by simp) (wN 8 _ (nH a ac ha)))
 clear ha
 go_enter Tryz.func50,Tryz.ntmps50
 go_wp2_with fail
 refine(C.out _).mono ?_;rintro e w0 ⟨rfl,rfl⟩
 go_wp2_with fail
 refine(HF.out _ (Below.refl _ _)).mono ?_;rintro e w2 ⟨rfl,hb,hacc,hz⟩;have hcell:=(bcell hb).1;have hz:w.heap.size+1<w2.heap.size:=by ((try simp at hz);omega)
 go_wp2_with (at_builtin;go_loud (refine wpList_append_own _ rfl (.tmp 45) (.tmp 50) 29 rfl w.heap.size 9 i0 (.string ByteArray.empty) 1 16 Tryz.underlying29 hi hz0 hz1 hz2 rfl (by decide) _ _ _ rfl ((HO.out _ hacc).alloc _) ⟨w2.heap.size,0,none⟩ 1 1 [.string (txt (It.tipT ⟨a.data.toList,ac⟩))] rfl rfl (cell_one_new _ _ _) (λx hx=>by simp at hx;subst hx;rfl) (by unfold maxLen;omega) (by omega) (by simp;omega) ?_;intro v1 w3 hown1 hg1 _))
 have hbF:=hid (((hV.out.trans (hacc.mono hV2.out)).alloc (by omega) _).grown hg1 (by simp;omega) (λg hg=>(((HO.out _ hacc).alloc (.cells #[.string (txt (It.tipT ⟨a.data.toList,ac⟩))] 9)).lt g hg).1))
 have LL:=hid (HL.out _ _ _ _ hown1 (by first|(simp[str];done)|simp[str,iR]))
 clear hown1 hg1 HO HL hV hV2
 go_wp2_with fail
 refine LL.out.mono ?_;rintro e w9 ⟨rfl,rfl⟩
 go_wp2
 go_ret
 exact⟨AfW HP.out.symm,hbF.out⟩
theorem AaP (k:Int) (hk:¬ (1<=k/\k<=9)) (nm:ByteArray) (n:Int) (a:ByteArray) (ac:UInt8) (b:ByteArray) (bc:UInt8) (w:World) :
 Calls Tryz.prog 50 #[.agg #[.int .i64 k,.string nm,.int .i64 n,.string a,.int .u8 ac.toNat,.string b,.int .u8 bc.toNat]] w λe w'=>e=.returned (.string (txt (It.print (ofV k nm n a ac b bc))))/\Below w.heap.size w w':=by
 have HP:=hid (AoX k nm n a ac b bc hk)
 have HW:=hid (show It.word k=[] from kZ (by omega) (by omega) (by omega) (by omega) (by omega) (by omega) (by omega) (by omega) (by omega))
 have hV:=hid (((AtB w).alloc (ArR _) (itO k nm n a ac b bc)).alloc (by simp) (.cells #[.string (txt (It.word k))] 9))
 have hV2:=hid (show w.heap.size<=((w.alloc (itO k nm n a ac b bc)).alloc (.cells #[.string (txt (It.word k))] 9)).heap.size by simp;omega)
 have HO:=hid (λW (h:Below ((w.alloc (itO k nm n a ac b bc)).alloc (.cells #[.string (txt (It.word k))] 9)).heap.size ((w.alloc (itO k nm n a ac b bc)).alloc (.cells #[.string (txt (It.word k))] 9)) W)=>show W.ownsRow w.heap.size 9 1 (.slice (some ⟨w.heap.size+1,0,none⟩) 1 1) 1 [.string (txt (It.word k))] from by
  have:=aA (World.ownsRow_lit (base:=w.heap.size) (e:=9) (size:=1) (w.alloc (itO k nm n a ac b bc)) #[.string (txt (It.word k))] 1 (by simp) (by unfold maxLen;omega) rfl) h
  rwa [show (w.alloc (itO k nm n a ac b bc)).heap.size=w.heap.size+1 by simp] at this)
 have C:=hid (λw=>cZ k w)
 obtain⟨i0,hi,hz0,hz1,hz2⟩:=info_parts eQ
 have HL:=hid (λW v m0 xs (h:World.ownsRow W w.heap.size 9 1 v m0 xs) (hx:xs=([It.word k]:List (List UInt8)).map str)=>dW (It.word k) [] W w.heap.size v m0 xs h hx (by simp) (by simp[Ln.line,Lib.join];have:=nF k;omega))
 have h1:(k == 1)=false:=gA (by omega)
 have h2:(k == 2)=false:=gA (by omega)
 have h3:(k == 3)=false:=gA (by omega)
 have h4:(k == 4)=false:=gA (by omega)
 have h5:(k == 5)=false:=gA (by omega)
 have h6:(k == 6)=false:=gA (by omega)
 have h7:(k == 7)=false:=gA (by omega)
 have h8:(k == 8)=false:=gA (by omega)
 have h9:(k == 9)=false:=gA (by omega)
 have LL:=hid (HL.out _ _ _ _ (HO.out _ (Below.refl _ _)) rfl)
 clear hk
 go_enter Tryz.func50,Tryz.ntmps50
 go_wp2_with fail
 refine(C.out _).mono ?_;rintro e w0 ⟨rfl,rfl⟩
 go_wp2_with fail
 refine LL.out.mono ?_;rintro e w9 ⟨rfl,rfl⟩
 go_wp2
 go_ret
 exact⟨AfW (by rw[HP.out,HW.out];rfl),hV.out⟩
theorem wQ (k:Int) (nm:ByteArray) (n:Int) (a:ByteArray) (ac:UInt8) (b:ByteArray) (bc:UInt8) (w:World) (h0:0<=n) (h1:n<=9223372036854775807) (hn:nm.size<=1000) (ha:a.size<=1000) (hb:b.size<=1000) :
 Calls Tryz.prog 50 #[.agg #[.int .i64 k,.string nm,.int .i64 n,.string a,.int .u8 ac.toNat,.string b,.int .u8 bc.toNat]] w λe w'=>e=.returned (.string (txt (It.print (ofV k nm n a ac b bc))))/\Below w.heap.size w w':=by
 by_cases hk:1<=k/\k<=9
 ·have hk':It.isNum k=true∨It.isLen k=true∨k=7∨k=8∨k=9:=by
   simp[It.isNum,It.isLen];omega
  rcases hk' with h|h|rfl|rfl|rfl
  ·exact wO k h nm n a ac b bc w h0 h1
  ·exact wP k h nm n a ac b bc w h0 h1 hn
  ·exact AfX nm n a ac b bc w ha hb
  ·exact AfZ nm n a ac b bc w ha
  exact AfY nm n a ac b bc w hn ha
 exact AaP k hk nm n a ac b bc w
def TipsTo (T:List (List UInt8)) (k:Nat) (e0 e1:It.Tp):Prop :=
 (T.take k).all It.tipOk=true/\(0<k->e0=It.tip (T.getD 0 []))/\(1<k->e1=It.tip (T.getD 1 []))/\(k<=1->e1=It.Tp.zero)
theorem gZ {w:World} {g:Nat} (h:g<w.heap.size) (o:Obj):(w.alloc o).heap[g]?=w.heap[g]?:=Below.heap_alloc w o g h
theorem AkB {T:List (List UInt8)} {e0 e1:It.Tp} (h:0<T.length) (ho:It.tipOk T[0]=true) (t:TipsTo T 0 e0 e1):TipsTo T (0+1) (It.tip T[0]) e1:=by
 refine⟨?_,λ_=>?_,λh=>absurd h (by omega),λ_=>t.2.2.2 (by omega)⟩
 ·rw[AsK h,List.all_append];simp[ho]
 rw[List.getD_eq_getElem?_getD,ArN h];rfl
theorem AkC {T:List (List UInt8)} {e0 e1:It.Tp} (h:1<T.length) (ho:It.tipOk T[1]=true) (t:TipsTo T 1 e0 e1):TipsTo T (1+1) e0 (It.tip T[1]):=by
 refine⟨?_,λ_=>t.2.1 (by omega),λ_=>?_,λh=>absurd h (by omega)⟩
 ·rw[AsK h,List.all_append,t.1];simp[ho]
 rw[List.getD_eq_getElem?_getD,ArN h];rfl
def ReadGives (p:Option It.Itm) (w:World) (e:Ending) (w':World):Prop :=
 ∃ y:It.Itm,e=.returned (.tuple #[.agg #[.int .i64 y.k,.string (txt y.name),.int .i64 y.n,.string (txt y.e0.n),.int .u8 y.e0.c.toNat,.string (txt y.e1.n),.int .u8 y.e1.c.toNat],.bool p.isSome]) /\
   (∀ z,p=some z->y=z)/\Below w.heap.size w w'
theorem ReadGives.mk {p:Option It.Itm} {w w':World} {e:Ending} (y:It.Itm) (b:Bool) (hb:p.isSome=b) (hy:∀ z,p=some z->y=z) (he:e=.returned (.tuple #[.agg #[.int .i64 y.k,.string (txt y.name),.int .i64 y.n,.string (txt y.e0.n),.int .u8 y.e0.c.toNat,.string (txt y.e1.n),.int .u8 y.e1.c.toNat],.bool b]))
 (hw:Below w.heap.size w w'):ReadGives p w e w':=by subst hb;exact⟨y,he,hy,hw⟩
theorem ApL (x:List UInt8) (w:World) (hs:x.length<=1000000) (b:Bool) (h:Fig.nameB x=b) :
 Calls Tryz.prog 60 #[.string (txt x)] w λe w'=>e=.returned (.bool b)/\w=w':=by
 have:=AiU (txt x) w (by rw[bJ];unfold maxLen;omega)
 rwa [aT,h] at this
theorem nI {w:World} {bk o:Nat} {L:List (List UInt8)} (h:Strs w (some ⟨bk,o,none⟩) L) (k:Nat) (hk:k<L.length):bk<w.heap.size/\w.cell? ⟨bk,o+k,none⟩=some (.string (txt L[k])):=by
 obtain⟨a',ha,hb,hc⟩:=h.cell hk
 cases ha
 rw[Go.WideShapes.add_plain,str] at hc
 exact⟨hb,hc⟩
theorem row7 {w:World} {g:Nat} {a b c d e f i:Value} {t:TypeId} (h:w.heap[g]?=some (.cells #[a,b,c,d,e,f,i] t (0,0))) :
 (w.cell? ⟨g,0,none⟩=some a/\w.cell? ⟨g,1,none⟩=some b/\w.cell? ⟨g,2,none⟩=some c/\w.cell? ⟨g,3,none⟩=some d/\w.cell? ⟨g,4,none⟩=some e/\w.cell? ⟨g,5,none⟩=some f/\w.cell? ⟨g,6,none⟩=some i) /\
 (w.frozen? ⟨g,0,none⟩=false/\w.frozen? ⟨g,1,none⟩=false/\w.frozen? ⟨g,2,none⟩=false/\w.frozen? ⟨g,3,none⟩=false/\w.frozen? ⟨g,4,none⟩=false/\w.frozen? ⟨g,5,none⟩=false/\w.frozen? ⟨g,6,none⟩=false)/\g<w.heap.size :=
 ⟨⟨AsY w g 0 _ t _ h,AsY w g 1 _ t _ h,AsY w g 2 _ t _ h,AsY w g 3 _ t _ h,AsY w g 4 _ t _ h,AsY w g 5 _ t _ h,AsY w g 6 _ t _ h⟩,
   ⟨AsZ w g 0 _ t h,AsZ w g 1 _ t h,AsZ w g 2 _ t h,AsZ w g 3 _ t h,AsZ w g 4 _ t h,AsZ w g 5 _ t h,AsZ w g 6 _ t h⟩,(ArL h).1⟩
theorem oJ {k:Int} (h:It.isLen k=true) (m d:List UInt8) (b:Bool) (hb:(Fig.nameB m && Fig.parseB d 1099511627776 && decide (0<Fig.parseN d 1099511627776))=b) :
 (It.parseK k [m,d]).isSome=b/\∀ z,It.parseK k [m,d]=some z->(⟨k,m,Fig.parseN d 1099511627776,It.Tp.zero,It.Tp.zero⟩:It.Itm)=z:=by
 subst hb
 have e:It.parseK k [m,d]=if (Fig.nameB m && Fig.parseB d 1099511627776 && decide (0<Fig.parseN d 1099511627776))=true then some ⟨k,m,Fig.parseN d 1099511627776,It.Tp.zero,It.Tp.zero⟩ else none:=by
  simp only[It.parseK,tL h,h];rfl
 rw[e]
 split
 ·rename_i hb;rw[hb];exact⟨rfl,λz hz=>AsO hz⟩
 rename_i hb;exact⟨by simpa using hb,λz hz=>by cases hz⟩
theorem wR (c:UInt8):∀ (D:List (List UInt8)) (r x:List UInt8),x∈D++[r]->x.length<=((D.map (· ++ [c])).flatten++r).length
 | [],r,x,h=>by simp at h;subst h;simp
 | d :: D,r,x,h=>by
   rcases AsN.1 (by simpa using h:x∈d :: (D++[r])) with rfl|h2
   ·simp <;> omega
   have:=wR c D r x h2
   simp only[List.map_cons,List.flatten_cons,ArV] at this ⊢;omega
theorem wT (l:List UInt8) (h:Ln.ws true l=true):∀ x∈Ln.words l,x.length<=l.length:=λx hx=>by
 obtain⟨hl,hne⟩:=Ln.line_words l h
 obtain⟨D,r,hD⟩:∃ D r,Ln.words l=D++[r]:=⟨(Ln.words l).dropLast,(Ln.words l).getLast hne,(List.dropLast_concat_getLast hne).symm⟩
 have:=wR 32 D r x (by rw[<-hD];exact hx)
 rw[hD,Ln.line,Ln.join_snoc] at hl
 rwa [hl] at this
theorem AgA (l:List UInt8):(Ln.words l).length<=l.length+1:=by
 unfold Ln.words
 split
 ·have:=Ln.st_len 32 l
  simp[Ln.cut];omega
 simp
theorem AnN (l:List UInt8):0<=It.kind l/\It.kind l<=9:=by
 rcases It.kind_cases l with ⟨h,_⟩|⟨h1,h2,_⟩
 ·omega
 omega
def ParseGives (p:Option It.Itm) (w:World) (e:Ending) (w':World):Prop :=
 ∃ y:It.Itm,e=.returned (.tuple #[.agg #[.int .i64 y.k,.string (txt y.name),.int .i64 y.n,.string (txt y.e0.n),.int .u8 y.e0.c.toNat,.string (txt y.e1.n),.int .u8 y.e1.c.toNat],.bool p.isSome]) /\
   y=p.getD It.Itm.zero/\Below w.heap.size w w'
theorem ParseGives.no {p:Option It.Itm} {w w':World} {e:Ending} (hp:p=none) (he:e=.returned (.tuple #[.agg #[.int .i64 0,.string ⟨#[]⟩,.int .i64 0,.string ⟨#[]⟩,.int .u8 0,.string ⟨#[]⟩,.int .u8 0],.bool false])) (hw:Below w.heap.size w w'):ParseGives p w e w':=by
 subst hp;exact⟨It.Itm.zero,he,rfl,hw⟩
theorem ParseGives.yes {p:Option It.Itm} {y:It.Itm} {w w':World} {e:Ending} (hp:p=some y) (he:e=.returned (.tuple #[.agg #[.int .i64 y.k,.string (txt y.name),.int .i64 y.n,.string (txt y.e0.n),.int .u8 y.e0.c.toNat,.string (txt y.e1.n),.int .u8 y.e1.c.toNat],.bool true])) (hw:Below w.heap.size w w'):ParseGives p w e w':=by
 subst hp;exact⟨y,he,rfl,hw⟩
theorem parse_none {l:List UInt8} (h:Ln.ws true l=false):It.parse l=none:=by rw[It.parse,h];rfl
theorem parse_some {l x:List UInt8} {T:List (List UInt8)} {k:Int} (h:Ln.ws true l=true) (hL:Ln.words l=x :: T) (hk:It.kind x=k):It.parse l=It.parseK k T:=by rw[It.parse,ArZ h,hL,It.parseW,hk]
theorem AgB {w:World} {A:Option Addr} {x:List UInt8} {T:List (List UInt8)} (h:Strs w A (x :: T)):∃ bk o,A=some ⟨bk,o,none⟩:=by
 obtain⟨a,rfl,hb,hc⟩:=h 0 x rfl
 obtain⟨bk,o,sp⟩:=a
 obtain rfl:sp=none:=by simpa [Addr.add] using World.cell?_spot hc
 exact⟨bk,o,rfl⟩
end Go.Proofs.YtjofpclmbjpgjaaGreat
