/- Lemmas. -/
import Derived.Test.YtjofpclmbjpgjaaGreatMk01
namespace Go.Proofs.YtjofpclmbjpgjaaGreat.Pl
open Go It
def swap (x:Itm):Itm:={ x with e0:=x.e1,e1:=x.e0 }
theorem dV {t:Tp} {x:Itm}:link t x=none ↔ t ∉ ment x:=by
 unfold link ment
 by_cases h7:x.k=7
 ·rw[ArZ h7,ArZ h7]
  by_cases h0:x.e0=t
  ·rw[ArZ h0];simp[h0]
  rw[ArY h0]
  by_cases h1:x.e1=t
  ·rw[ArZ h1];simp[h1]
  rw[ArY h1];simp[Ne.symm h0,Ne.symm h1]
 rw[ArY h7,ArY h7]
 by_cases h8:x.k=8
 ·rw[ArZ h8]
  by_cases h0:x.e0=t
  ·rw[ArZ ⟨h8,h0⟩];simp[h0]
  rw[ArY λh=>h0 h.2];simp[Ne.symm h0]
 rw[ArY λh=>h8 h.1,ArY h8];simp
theorem partner_none {M:List Itm} {t:Tp}:partner M t=none ↔ t ∉ ments M:=by
 unfold partner ments
 rw[List.findSome?_eq_none_iff]
 constructor
 ·intro h hm
  obtain⟨x,hx,ht⟩:=List.mem_flatMap.1 hm
  exact dV.1 (h x hx) ht
 intro h x hx
 exact dV.2 λht=>h (List.mem_flatMap.2 ⟨x,hx,ht⟩)
theorem gC:∀ {M:List Itm} (_:(ments M).Nodup) {x:Itm} (_:x∈M) {t:Tp} (_:t∈ment x),partner M t=link t x
 | y :: M,hn,x,hx,t,ht=>by
   have hn':(ment y++ments M).Nodup:=by simpa [ments] using hn
   have hd:=List.nodup_append.1 hn'
   unfold partner
   rw[List.findSome?_cons]
   rcases AsN.1 hx with rfl|hx
   ·cases hl:link t x with
    | none=>exact absurd ht (dV.1 hl)
    | some v=>rfl
   have hy:t ∉ ment y:=λh=>hd.2.2 t h t (List.mem_flatMap.2 ⟨x,hx,ht⟩) rfl
   rw[dV.2 hy]
   exact gC hd.2.1 hx ht
theorem sU {M:List Itm} {t:Tp} {v:Option Tp} (h:partner M t=some v):∃ x∈M,link t x=some v/\t∈ment x:=by
 obtain⟨x,hx,hl⟩:=List.exists_of_findSome?_eq_some h
 refine⟨x,hx,hl,Classical.byContradiction λhc=>?_⟩
 rw[dV.2 hc] at hl;cases hl
theorem AaA {M:List Itm} (hn:(ments M).Nodup) {x:Itm} (hx:x∈M):(ment x).Nodup:=by
 induction M with
 | nil=>cases hx
 | cons y M ih =>
   have hn':(ment y++ments M).Nodup:=by simpa [ments] using hn
   rcases AsN.1 hx with rfl|hx
   ·exact(List.nodup_append.1 hn').1
   exact ih (List.nodup_append.1 hn').2.1 hx
theorem vZ {t u:Tp} {x:Itm} (h:link t x=some (some u)):x.k=7/\((x.e0=t/\x.e1=u)∨(x.e1=t/\x.e0=u)):=by
 unfold link at h
 split at h
 ·rename_i h7
  refine⟨h7,?_⟩
  split at h
  ·rename_i h0;cases h;exact .inl ⟨h0,rfl⟩
  split at h
  ·rename_i h1;cases h;exact .inr ⟨h1,rfl⟩
  cases h
 split at h <;> cases h
theorem ment7 {x:Itm} (h:x.k=7):ment x=[x.e0,x.e1]:=by rw[ment,ArZ h]
theorem AnC {M:List Itm} (hn:(ments M).Nodup) {x:Itm} (hx:x∈M) (h7:x.k=7):x.e0≠x.e1:=by
 have:=AaA hn hx
 rw[ment7 h7] at this
 simp at this
 exact this
theorem eP {M:List Itm} (hn:(ments M).Nodup) {t u:Tp} (h:partner M t=some (some u)):partner M u=some (some t)/\t≠u:=by
 obtain⟨x,hx,hl,_⟩:=sU h
 obtain⟨h7,ho⟩:=vZ hl
 have hne:=AnC hn hx h7
 rcases ho with ⟨rfl,rfl⟩|⟨rfl,rfl⟩
 ·refine⟨?_,hne⟩
  rw[gC hn hx (by rw[ment7 h7];simp),link,ArZ h7,ArY hne,ArZ rfl]
 refine⟨?_,hne.symm⟩
 rw[gC hn hx (by rw[ment7 h7];simp),link,ArZ h7,ArZ rfl]
theorem mem_secs {M:List Itm} {x:Itm}:x∈secs M ↔ x∈M/\isS x=true:=List.mem_filter
theorem eF {M:List Itm} {x:Itm}:x∈sigs M ↔ x∈M/\isG x=true:=List.mem_filter
theorem mem_nmS {M:List Itm} {nm:Nm}:nm∈nmS M ↔ ∃ x∈secs M,x.name=nm:=List.mem_map
theorem uniq {α:Type} {f:α->Nm}:∀ {l:List α} (_:(l.map f).Nodup) {a b:α} (_:a∈l) (_:b∈l) (_:f a=f b),a=b
 | c :: l,hn,a,b,ha,hb,e=>by
   rw[List.map_cons,List.nodup_cons] at hn
   rcases AsN.1 ha with rfl|ha'
   ·rcases AsN.1 hb with rfl|hb'
    ·rfl
    exact absurd (e ▸ List.mem_map_of_mem hb') hn.1
   rcases AsN.1 hb with rfl|hb'
   ·exact absurd (e ▸ List.mem_map_of_mem ha') hn.1
   exact uniq hn.2 ha' hb' e
theorem AoW {α β:Type} {f:α->β}:∀ {l:List α} (_:(l.map f).Nodup) {a b:α} (_:a∈l) (_:b∈l) (_:f a=f b),a=b
 | c :: l,hn,a,b,ha,hb,e=>by
   rw[List.map_cons,List.nodup_cons] at hn
   rcases AsN.1 ha with rfl|ha'
   ·rcases AsN.1 hb with rfl|hb'
    ·rfl
    exact absurd (e ▸ List.mem_map_of_mem hb') hn.1
   rcases AsN.1 hb with rfl|hb'
   ·exact absurd (e ▸ List.mem_map_of_mem ha') hn.1
   exact AoW hn.2 ha' hb' e
theorem gT {α β:Type} [DecidableEq β] {f:α->β} {l:List α} (hn:(l.map f).Nodup) {a:α} (ha:a∈l):(l.find? λx=>decide (f x=f a))=some a:=by
 cases h:l.find? λx=>decide (f x=f a) with
 | none=>exact absurd (decide_eq_true (rfl:f a=f a)) (List.find?_eq_none.1 h a ha)
 | some b =>
   have h1:=List.find?_some h
   have h2:=List.mem_of_find?_eq_some h
   rw[AoW hn h2 ha (of_decide_eq_true h1)]
theorem ptOf_eq {M:List Itm} (hn:(nmS M).Nodup) {x:Itm} (hx:x∈secs M):ptOf M x.name=isPt x:=by
 unfold ptOf
 rw[gT (f:=Itm.name) hn hx];rfl
theorem AjE {M:List Itm} (hn:((sigs M).map (·.e0)).Nodup) {x:Itm} (hx:x∈sigs M):sigAt M x.e0=some x.name:=by
 unfold sigAt
 rw[gT (f:=Itm.e0) hn hx];rfl
theorem eH {M:List Itm} {t:Tp} {g:Nm} (h:sigAt M t=some g):∃ x∈sigs M,x.e0=t/\x.name=g:=by
 unfold sigAt at h
 rw[Option.map_eq_some_iff] at h
 obtain⟨x,hx,hg⟩:=h
 exact⟨x,List.mem_of_find?_eq_some hx,by simpa using List.find?_some hx,hg⟩
def TipG (t:Tp):Prop:=Fig.nameB t.n=true/\It.letter t.c=true
theorem nA {l:List UInt8} (h:tipOk l=true):TipG (It.tip l):=by
 rw[It.tip,ArZ h]
 simp only[tipOk,AsF,decide_eq_true_eq] at h
 obtain⟨⟨⟨h3,_⟩,hl⟩,hn⟩:=h
 refine⟨hn,?_⟩
 rw[ArN (by omega)] at hl ⊢
 exact hl
theorem cO {x:Itm} (h:It.right x=true):∃ T,parseK x.k T=some x:=by
 have hp:=Sh.right_parse h
 unfold It.parse at hp
 split at hp
 ·cases hW:Ln.words (print x) with
  | nil=>rw[hW] at hp;cases hp
  | cons a t =>
    rw[hW] at hp
    have hp':parseK (kind a) t=some x:=hp
    suffices h1:x.k=kind a by exact⟨t,by rw[h1];exact hp'⟩
    have:∀ k:Int,parseK k t=some x->x.k=k:=by
     intro k hk
     unfold parseK at hk
     repeat' split at hk
     all_goals first|(cases hk;rfl)|cases hk
    exact this _ hp'
 cases hp
theorem AfG {x:Itm} (h:It.right x=true) (hs:isS x=true):x=⟨x.k,x.name,x.n,Tp.zero,Tp.zero⟩/\Fig.nameB x.name=true/\1<=x.n:=by
 have hk1:isNum x.k=false:=by rcases kinds h with k|k|k|k|k <;> simp_all
 have hk2:isLen x.k=true:=hs
 obtain⟨T,hT⟩:=cO h
 unfold parseK at hT
 rw[ArY (by simp[hk1]),ArZ hk2] at hT
 split at hT
 ·split at hT
  ·rename_i hc
   simp only[AsF,AsC] at hc
   have e:=AsO hT
   rw[<-e]
   exact⟨rfl,hc.1.1,by show 1<=Fig.parseN _ _;omega⟩
  cases hT
 cases hT
theorem right_join {x:Itm} (h:It.right x=true) (h7:x.k=7):x=⟨7,[],0,x.e0,x.e1⟩/\TipG x.e0/\TipG x.e1:=by
 obtain⟨T,hT⟩:=cO h
 rw[h7] at hT
 unfold parseK at hT
 rw[ArY (by decide),ArY (by decide),ArZ rfl] at hT
 split at hT
 ·split at hT
  ·rename_i hc
   rw[AsF] at hc
   have e:=AsO hT
   rw[<-e]
   exact⟨rfl,nA hc.1,nA hc.2⟩
  cases hT
 cases hT
theorem right_stop {x:Itm} (h:It.right x=true) (h8:x.k=8):x=⟨8,[],0,x.e0,Tp.zero⟩/\TipG x.e0:=by
 obtain⟨T,hT⟩:=cO h
 rw[h8] at hT
 unfold parseK at hT
 rw[ArY (by decide),ArY (by decide),ArY (by decide),ArZ rfl] at hT
 split at hT
 ·split at hT
  ·rename_i hc
   have e:=AsO hT
   rw[<-e]
   exact⟨rfl,nA hc⟩
  cases hT
 cases hT
theorem right_sig {x:Itm} (h:It.right x=true) (h9:x.k=9):x=⟨9,x.name,0,x.e0,Tp.zero⟩/\Fig.nameB x.name=true/\TipG x.e0:=by
 obtain⟨T,hT⟩:=cO h
 rw[h9] at hT
 unfold parseK at hT
 rw[ArY (by decide),ArY (by decide),ArY (by decide),ArY (by decide),ArZ rfl] at hT
 split at hT
 ·split at hT
  ·rename_i hc
   rw[AsF] at hc
   have e:=AsO hT
   rw[<-e]
   exact⟨rfl,hc.1,nA hc.2⟩
  cases hT
 cases hT
theorem letter_inj {pt:Bool} {e f:Nat} (he:e<nEnds pt) (hf:f<nEnds pt) (h:letter pt e=letter pt f):e=f:=by
 cases pt
 ·have:e=0∨e=1:=by simp[nEnds] at he;omega
  have:f=0∨f=1:=by simp[nEnds] at hf;omega
  rcases ‹e=0∨e=1› with rfl|rfl <;> rcases ‹f=0∨f=1› with rfl|rfl <;> first|rfl|exact absurd h (by decide)
 have:e=0∨e=1∨e=2:=by simp[nEnds] at he;omega
 have:f=0∨f=1∨f=2:=by simp[nEnds] at hf;omega
 rcases ‹e=0∨e=1∨e=2› with rfl|rfl|rfl <;> rcases ‹f=0∨f=1∨f=2› with rfl|rfl|rfl <;> first|rfl|exact absurd h (by decide)
theorem sV {pt:Bool} {e:Nat} (he:e<nEnds pt):endAt pt (letter pt e)=some e:=by
 cases pt
 ·have:e=0∨e=1:=by simp[nEnds] at he;omega
  rcases this with rfl|rfl <;> decide
 have:e=0∨e=1∨e=2:=by simp[nEnds] at he;omega
 rcases this with rfl|rfl|rfl <;> decide
theorem letter_endAt {pt:Bool} {c:UInt8} {e:Nat} (h:endAt pt c=some e):letter pt e=c/\e<nEnds pt:=by
 unfold endAt at h
 split at h
 ·rename_i h0;cases h;exact⟨h0,by cases pt <;> decide⟩
 split at h
 ·rename_i h1;cases h;exact⟨h1,by cases pt <;> decide⟩
 split at h
 ·rename_i h2;cases h;exact⟨h2.2,by rw[h2.1];decide⟩
 cases h
theorem told_all {L:List Itm} (hL:Ok L) {x:Itm} (hx:x∈L) {t:Tp} (ht:t∈tips x):∃ y∈secs L,∃ e,e<nEnds (isPt y)/\t=tip y e:=by
 obtain⟨M,N,rfl⟩:=List.append_of_mem hx
 obtain⟨h1,h2⟩:=hL.told M x N rfl t ht
 obtain⟨y,hy,hn⟩:=mem_nmS.1 h1
 have hsub:secs (M++x :: N)=secs M++secs (x :: N):=by simp[secs,List.filter_append]
 have hM:(nmS M).Nodup:=by
  have:=hL.names
  rw[nmS,hsub,List.map_append] at this
  exact(List.nodup_append.1 this).1
 rw[<-hn,ptOf_eq hM hy] at h2
 obtain⟨e,he⟩:=Option.isSome_iff_exists.1 h2
 obtain⟨h3,h4⟩:=letter_endAt he
 exact⟨y,by rw[hsub];exact List.mem_append_left _ hy,e,h4,by cases t;simp at hn h3;simp[tip,hn,h3]⟩
theorem AfH {x:Itm} {t:Tp} (h:t∈ment x):t∈tips x:=by
 unfold ment at h
 unfold tips
 split at h
 ·rename_i h7;rw[ArZ h7];exact h
 rename_i h7
 split at h
 ·rename_i h8;rw[ArY h7,ArZ h8];exact h
 cases h
theorem nY {L:List Itm} (hL:Ok L) {t:Tp} (ht:t∈ments L):∃ y∈secs L,∃ e,e<nEnds (isPt y)/\t=tip y e:=by
 obtain⟨x,hx,h⟩:=List.mem_flatMap.1 ht
 exact told_all hL hx (AfH h)
theorem AjF {L:List Itm} (hS:Shut L) {x:Itm} (hx:x∈secs L) {e:Nat} (he:e<nEnds (isPt x)):partner L (tip x e)≠none:=λhc=>by
 have:=hS x (mem_secs.1 hx).1
 unfold lackErr at this
 rw[ArZ (mem_secs.1 hx).2,ArZ] at this
 ·cases this
 rw[List.any_eq_true]
 exact⟨e,List.mem_range.2 he,by simpa using hc⟩
theorem tip_at {L:List Itm} (hL:Ok L) {x:Itm} (hx:x∈secs L) {e:Nat} (he:e<nEnds (isPt x)):endAt (ptOf L (tip x e).n) (tip x e).c=some e:=by
 show endAt (ptOf L x.name) (letter (isPt x) e)=some e
 rw[ptOf_eq hL.names hx]
 exact sV he
def SS (L:List Itm):List Itm:=isort Itm.name (secs L)
def GG (L:List Itm):List Itm:=isort Itm.name (sigs L)
theorem sW {L:List Itm} (hL:Ok L):Rise Itm.name (SS L):=cV _ _ hL.names
theorem sX {L:List Itm} (hL:Ok L):Rise Itm.name (GG L):=cV _ _ hL.gnames
theorem AjG {L:List Itm} {x:Itm}:x∈SS L ↔ x∈secs L:=eY _
theorem AjH {L:List Itm} {x:Itm}:x∈GG L ↔ x∈sigs L:=eY _
theorem AdK (L:List Itm):(SS L).Perm (secs L):=cJ _ _
theorem AdL (L:List Itm):(GG L).Perm (sigs L):=cJ _ _
def plS (L:List Itm) (x:Itm):Nat:=(rank (nmS L) x.name).toNat
def plG (L:List Itm) (x:Itm):Nat:=(rank (nmG L) x.name).toNat
theorem AjI {L:List Itm} (hL:Ok L) {x:Itm} (hx:x∈secs L):(SS L)[plS L x]?=some x:=by
 have:=mZ (sW hL) (AjG.2 hx)
 rwa [cW ((AdK L).map Itm.name)] at this
theorem AqK {L:List Itm} (hL:Ok L) {x:Itm} (hx:x∈sigs L):(GG L)[plG L x]?=some x:=by
 have:=mZ (sX hL) (AjH.2 hx)
 rwa [cW ((AdL L).map Itm.name)] at this
theorem AjJ {L:List Itm} (hL:Ok L) {x:Itm} {s:Nat} (h:(SS L)[s]?=some x):x∈secs L/\rank (nmS L) x.name=s:=by
 have hx:=AjG.1 (ArX h)
 refine⟨hx,?_⟩
 rw[show nmS L=(secs L).map Itm.name from rfl,<-cW ((AdK L).map Itm.name)]
 exact jL (jM (sW hL)) s _ (by rw[List.getElem?_map,h];rfl)
abbrev fS (L:List Itm):Itm->Sec:=AiZ (rank (nmS L)) (rank (nmG L)) L
theorem dH (L:List Itm):(fin L).secs=(SS L).map (fS L):=rfl
theorem jN (L:List Itm):(fin L).sigs=(GG L).map (sigW (rank (nmS L)) L):=rfl
theorem kU {L:List Itm} {x:Itm} {e:Nat} (he:e<nEnds (isPt x)):(fS L x).get e=enW (rank (nmS L)) (rank (nmG L)) L (tip x e):=by
 unfold Sec.get
 by_cases h0:e=0
 ·rw[ArZ h0,h0];rfl
 rw[ArY h0]
 by_cases h1:e=1
 ·rw[ArZ h1,h1];rfl
 rw[ArY h1]
 have hp:isPt x=true:=by
  cases hp:isPt x with
  | true=>rfl
  | false=>rw[hp] at he;simp[nEnds] at he;omega
 have h2:e=2:=by rw[hp] at he;simp[nEnds] at he;omega
 rw[h2]
 show (if isPt x=true then enW _ _ L (tip x 2) else stop)=_
 rw[ArZ hp]
theorem cY {L:List Itm} {a:Nat × Nat}:a∈eE (fin L) ↔ ∃ x,(SS L)[a.1]?=some x/\a.2<nEnds (isPt x):=by
 obtain⟨s,e⟩:=a
 unfold eE
 simp only[List.mem_flatMap,List.mem_range,List.mem_map,dH,List.getElem?_map,AsH]
 constructor
 ·rintro⟨s',hs,e',he,h⟩
  cases h
  rw[ArN hs] at he
  exact⟨_,ArN hs,he⟩
 rintro⟨x,hx,he⟩
 have hs:=(ArM hx).1
 refine⟨s,hs,e,?_,rfl⟩
 rw[hx];exact he
theorem gU {L:List Itm} {s e:Nat} {x:Itm} (h:(SS L)[s]?=some x):zZ (fin L) s e=tip x e:=by
 unfold zZ
 rw[dH,List.getElem?_map,h];rfl
theorem sY {L:List Itm} {s e:Nat} {x:Itm} (h:(SS L)[s]?=some x) (he:e<nEnds (isPt x)):enP (fin L) (s,e)=enW (rank (nmS L)) (rank (nmG L)) L (tip x e):=by
 unfold enP
 rw[dH,List.getElem?_map,h]
 exact kU he
abbrev ta (L:List Itm) (a:Nat × Nat):Tp:=zZ (fin L) a.1 a.2
theorem AnD {L:List Itm} (hL:Ok L) {y:Itm} (hy:y∈secs L) {e:Nat} (he:e<nEnds (isPt y)):(plS L y,e)∈eE (fin L)/\ta L (plS L y,e)=tip y e :=
 ⟨cY.2 ⟨y,AjI hL hy,he⟩,gU (AjI hL hy)⟩
theorem AjK {L:List Itm} (hL:Ok L) {t:Tp} (ht:t∈ments L):∃ a∈eE (fin L),ta L a=t:=by
 obtain⟨y,hy,e,he,rfl⟩:=nY hL ht
 exact⟨_,AnD hL hy he⟩
theorem AaB {L:List Itm} (hL:Ok L) (hS:Shut L) {a:Nat × Nat} (ha:a∈eE (fin L)):partner L (ta L a)≠none:=by
 obtain⟨x,hx,he⟩:=cY.1 ha
 rw[ta,gU hx]
 exact AjF hS (AjJ hL hx).1 he
theorem partner_ments {L:List Itm} {t:Tp} (h:partner L t≠none):t∈ments L:=Classical.byContradiction λhc=>h (partner_none.2 hc)
theorem AnE {L:List Itm} {a:Nat × Nat} (ha:a∈eE (fin L)) (h:partner L (ta L a)=some none):(enP (fin L) a).goes = -1/\(enP (fin L) a).at_=0:=by
 obtain⟨x,hx,he⟩:=cY.1 ha
 obtain⟨s,e⟩:=a
 rw[ta,gU hx] at h
 rw[sY hx he]
 simp[enW,h]
theorem AdM {L:List Itm} (hL:Ok L) {a b:Nat × Nat} (ha:a∈eE (fin L)) (hb:b∈eE (fin L)) (h:partner L (ta L a)=some (some (ta L b))):(enP (fin L) a).goes=b.1/\(enP (fin L) a).at_=b.2:=by
 obtain⟨x,hx,he⟩:=cY.1 ha
 obtain⟨y,hy,hf⟩:=cY.1 hb
 obtain⟨s,e⟩:=a
 obtain⟨s',e'⟩:=b
 rw[ta,gU hx,ta,gU hy] at h
 rw[sY hx he]
 obtain⟨hy',r2⟩:=AjJ hL hy
 simp only[enW,h]
 refine⟨r2,?_⟩
 rw[tip_at hL hy' hf];rfl
section
variable {L : List Itm} (hL : Ok L) (hS : Shut L)
include hL hS
def JJ (L:List Itm):List Itm:=(eE (fin L)).filterMap (AoU (fin L))
def BB (L:List Itm):List Itm:=(eE (fin L)).filterMap (AoV (fin L))
end
open Go It
theorem num_facts {x:Itm} (h:isNum x.k=true):isS x=false/\isG x=false/\x.k≠7/\x.k≠8/\x.k≠9:=by
 unfold isNum at h
 have:=of_decide_eq_true h
 unfold isS isG isLen
 exact⟨decide_eq_false (by omega),decide_eq_false (by omega),by omega,by omega,by omega⟩
theorem sec_facts {x:Itm} (h:isS x=true):isNum x.k=false/\isG x=false/\x.k≠7/\x.k≠8/\x.k≠9:=by
 unfold isS isLen at h
 have:=of_decide_eq_true h
 unfold isNum isG
 exact⟨decide_eq_false (by omega),decide_eq_false (by omega),by omega,by omega,by omega⟩
theorem sig_facts {x:Itm} (h:isG x=true):isNum x.k=false/\isS x=false/\x.k≠7/\x.k≠8/\x.k=9:=by
 unfold isG at h
 have:=of_decide_eq_true h
 unfold isNum isS isLen
 exact⟨decide_eq_false (by omega),decide_eq_false (by omega),by omega,by omega,by omega⟩
theorem end_facts {x:Itm} (h:x.k=7∨x.k=8):isNum x.k=false/\isS x=false/\isG x=false:=by
 unfold isNum isS isLen isG
 exact⟨decide_eq_false (by omega),decide_eq_false (by omega),decide_eq_false (by omega)⟩
def CC (L:List Itm):List Itm:=JJ L++BB L++GG L
section
variable {L : List Itm} (hL : Ok L) (hS : Shut L)
include hL
theorem nB {i:Nat} {s:Sec} (h:(fin L).secs[i]?=some s):∃ x,(SS L)[i]?=some x/\x∈secs L/\plS L x=i/\rank (nmS L) x.name=i/\s=fS L x:=by
 rw[dH,List.getElem?_map,Option.map_eq_some_iff] at h
 obtain⟨x,hx,rfl⟩:=h
 obtain⟨h1,h2⟩:=AjJ hL hx
 exact⟨x,hx,h1,by unfold plS;omega,h2,rfl⟩
theorem AnF {x:Itm} (hx:x∈secs L):(fin L).secs[plS L x]?=some (fS L x):=by
 rw[dH,List.getElem?_map,AjI hL hx];rfl
theorem AdN {i:Nat} {g:Sig} (h:(fin L).sigs[i]?=some g):∃ x,(GG L)[i]?=some x/\x∈sigs L/\plG L x=i/\rank (nmG L) x.name=i/\g=sigW (rank (nmS L)) L x:=by
 rw[jN,List.getElem?_map,Option.map_eq_some_iff] at h
 obtain⟨x,hx,rfl⟩:=h
 have hx':=AjH.1 (ArX hx)
 have hr:rank (nmG L) x.name=i:=by
  rw[show nmG L=(sigs L).map Itm.name from rfl,<-cW ((AdL L).map Itm.name)]
  exact jL (jM (sX hL)) i _ (by rw[List.getElem?_map,hx];rfl)
 exact⟨x,hx,hx',by unfold plG;omega,hr,rfl⟩
theorem AnG {x:Itm} (hx:x∈sigs L):(fin L).sigs[plG L x]?=some (sigW (rank (nmS L)) L x):=by
 rw[jN,List.getElem?_map,AqK hL hx];rfl
theorem AfI:Rise Sec.name (fin L).secs:=by
 unfold Rise
 rw[dH,List.pairwise_map]
 exact sW hL
theorem AfJ:Rise Sig.name (fin L).sigs:=by
 unfold Rise
 rw[jN,List.pairwise_map]
 exact sX hL
omit hL in
theorem AjL:(fin L).secs.length=(secs L).length:=by rw[dH,AsH];exact eX _ _
omit hL in
theorem AjM:(fin L).sigs.length=(sigs L).length:=by rw[jN,AsH];exact eX _ _
theorem AfK {i:Nat} {s:Sec} (h:(fin L).secs[i]?=some s) (hp:s.pt=false):s.e2=stop:=by
 obtain⟨x,_,_,_,_,rfl⟩:=nB hL h
 show (if isPt x then _ else stop)=stop
 have:isPt x=false:=hp
 rw[this];rfl
include hS
theorem qR {i e:Nat} {s:Sec} (h:(fin L).secs[i]?=some s) (he:e<3) :
 s.get e=stop ∨
 (∃ x,x∈secs L/\e<nEnds (isPt x)/\plS L x=i/\s=fS L x/\partner L (tip x e)=some none/\(s.get e).goes = -1/\(s.get e).at_=0/\(s.get e).sig = -1) ∨
 (∃ (x:Itm) (j f:Nat) (t:Sec),x∈secs L/\e<nEnds (isPt x)/\plS L x=i/\s=fS L x/\(fin L).secs[j]?=some t/\f<3/\(s.get e).goes=(j:Int)/\(s.get e).at_=(f:Int)/\(t.get f).goes=(i:Int)/\(t.get f).at_=(e:Int) /\
  ((s.get e).sig = -1∨∃ (k:Nat) (g:Sig),(fin L).sigs[k]?=some g/\(s.get e).sig=(k:Int)/\g.sec=(i:Int)/\g.en=(e:Int))):=by
 obtain⟨x,hx,hxs,hpl,hrk,rfl⟩:=nB hL h
 by_cases hen:e<nEnds (isPt x)
 ·right
  have ha:(i,e)∈eE (fin L):=cY.2 ⟨x,hx,hen⟩
  have hta:ta L (i,e)=tip x e:=gU hx
  have hg:(fS L x).get e=enP (fin L) (i,e):=by rw[sY hx hen,kU hen]
  have hne:=AaB hL hS ha
  have hsg:∀ u,sigAt L (tip x e)=some u->∃ y∈sigs L,y.e0=tip x e/\y.name=u/\∃ v,partner L (tip x e)=some (some v):=λu hu=>by
   obtain⟨y,hy,h1,h2⟩:=eH hu
   refine⟨y,hy,h1,h2,?_⟩
   have:=hS y (eF.1 hy).1
   unfold lackErr at this
   rw[ArY (by rw[(sig_facts (eF.1 hy).2).2.1];simp),ArZ (eF.1 hy).2,h1] at this
   cases hp:partner L (tip x e) with
   | none=>rw[hp] at this;cases this
   | some v =>
     cases v with
     | none=>rw[hp] at this;cases this
     | some v=>exact⟨v,rfl⟩
  cases hp:partner L (ta L (i,e)) with
  | none=>exact absurd hp hne
  | some v =>
    cases v with
    | none =>
      left
      obtain⟨h1,h2⟩:=AnE ha hp
      rw[hta] at hp
      refine⟨x,hxs,hen,hpl,rfl,hp,by rw[hg];exact h1,by rw[hg];exact h2,?_⟩
      rw[kU hen]
      show (match sigAt L (tip x e) with|some g=>rank (nmG L) g|none=>-1) = -1
      cases hs:sigAt L (tip x e) with
      | none=>rfl
      | some u =>
        obtain⟨_,_,_,_,v,hv⟩:=hsg u hs
        rw[hp] at hv;cases hv
    | some u =>
      right
      obtain⟨b,hb,rfl⟩:=AjK hL (partner_ments (t:=u) (by rw[(eP hL.ments hp).1];simp))
      obtain⟨h1,h2⟩:=AdM hL ha hb hp
      obtain⟨h3,h4⟩:=AdM hL hb ha (eP hL.ments hp).1
      obtain⟨j,f⟩:=b
      obtain⟨y,hy,hf⟩:=cY.1 hb
      have hf3:f<3:=by
       have:nEnds (isPt y)<=3:=by unfold nEnds;split <;> omega
       exact AsE hf this
      have hgy:(fS L y).get f=enP (fin L) (j,f):=by rw[sY hy hf,kU hf]
      refine⟨x,j,f,fS L y,hxs,hen,hpl,rfl,by rw[dH,List.getElem?_map,hy];rfl,hf3,by rw[hg];exact h1,by rw[hg];exact h2,by rw[hgy];exact h3,by rw[hgy];exact h4,?_⟩
      rw[kU hen]
      show ((match sigAt L (tip x e) with|some g=>rank (nmG L) g|none=>-1) = -1)∨∃ k g,_/\(match sigAt L (tip x e) with|some g=>rank (nmG L) g|none=>-1)=_/\_
      cases hs:sigAt L (tip x e) with
      | none=>exact .inl rfl
      | some u =>
        obtain⟨z,hz,h5,h6,_⟩:=hsg u hs
        refine .inr ⟨plG L z,_,AnG hL hz,?_,?_,?_⟩
        ·show rank (nmG L) u=_
         rw[<-h6]
         have:=rank_nonneg (nmG L) z.name
         unfold plG;omega
        ·show rank (nmS L) z.e0.n=_
         rw[h5];exact hrk
        show (((endAt (ptOf L z.e0.n) z.e0.c).getD 0:Nat):Int)=_
        rw[h5,tip_at hL hxs hen];rfl
 left
 unfold Sec.get
 have hp:isPt x=false:=by
  cases hp:isPt x with
  | false=>rfl
  | true=>rw[hp] at hen;exact absurd he hen
 have h2:e=2:=by rw[hp] at hen;simp[nEnds] at hen;omega
 subst h2
 show (if isPt x then _ else stop)=stop
 rw[hp];rfl
omit hS in
theorem AfL {i:Nat} {g:Sig} (h:(fin L).sigs[i]?=some g):∃ (j f:Nat) (t:Sec),(fin L).secs[j]?=some t/\f<3/\g.sec=(j:Int)/\g.en=(f:Int)/\(t.get f).sig=(i:Int):=by
 obtain⟨x,hx,hxs,_,hrk,rfl⟩:=AdN hL h
 have h9:=(sig_facts (eF.1 hxs).2).2.2.2.2
 obtain⟨y,hy,f,hf,ht⟩:=told_all hL (eF.1 hxs).1 (t:=x.e0) (by unfold tips;rw[ArY (by omega),ArY (by omega),ArZ h9];simp)
 have hf3:f<3:=by
  have:nEnds (isPt y)<=3:=by unfold nEnds;split <;> omega
  exact AsE hf this
 refine⟨plS L y,f,_,AnF hL hy,hf3,?_,?_,?_⟩
 ·show rank (nmS L) x.e0.n=_
  rw[ht]
  have:=rank_nonneg (nmS L) y.name
  show rank (nmS L) y.name=_
  unfold plS;omega
 ·show (((endAt (ptOf L x.e0.n) x.e0.c).getD 0:Nat):Int)=_
  rw[ht,tip_at hL hy hf];rfl
 rw[kU hf]
 show (match sigAt L (tip y f) with|some g=>rank (nmG L) g|none=>-1)=_
 rw[<-ht,AjE hL.gends hxs]
 exact hrk
end
def find (l:List Sec) (nm:Nm):Int:=match l.findIdx? λs=>decide (s.name=nm) with|some i=>(i:Int)|none=>-1
theorem find_none {l:List Sec} {nm:Nm} (h:∀ s∈l,s.name≠nm):find l nm = -1:=by
 unfold find
 rw[List.findIdx?_eq_none_iff.2 λs hs=>by simpa using h s hs]
theorem find_at {l:List Sec} {nm:Nm} {i:Nat} {s:Sec} (h:l[i]?=some s) (hn:s.name=nm) (h0:∀ j<i,∀ t,l[j]?=some t->t.name≠nm):find l nm=i:=by
 unfold find
 have:l.findIdx? (λs=>decide (s.name=nm))=some i:=by
  rw[List.findIdx?_eq_some_iff_getElem]
  obtain⟨hi,rfl⟩:=ArM h
  exact⟨hi,by simpa using hn,λj hj=>by simpa using h0 j hj _ (ArN (by omega))⟩
 rw[this]
theorem find_cases (l:List Sec) (nm:Nm):(find l nm = -1/\∀ s∈l,s.name≠nm)∨∃ i s,find l nm=(i:Nat)/\l[i]?=some s/\s.name=nm:=by
 cases h:l.findIdx? λs=>decide (s.name=nm) with
 | none=>exact .inl ⟨by unfold find;rw[h],λs hs=>by simpa using List.findIdx?_eq_none_iff.1 h s hs⟩
 | some i =>
   obtain⟨hi,h1,_⟩:=List.findIdx?_eq_some_iff_getElem.1 h
   exact .inr ⟨i,l[i],by unfold find;rw[h],ArN hi,by simpa using h1⟩
theorem kV (M:List Itm) (used:List Tp) (t:Tp):tipErr M used t=0∨tipErr M used t=4∨tipErr M used t=5∨tipErr M used t=6:=by
 unfold tipErr
 repeat' split
 all_goals simp
theorem lineErr_2 (M:List Itm) (x:Itm):lineErr M x=2 ↔ It.right x=false:=by
 constructor
 ·intro h
  cases hr:It.right x with
  | false=>rfl
  | true =>
    have h1:=kV M (ments M) x.e0
    have h2:=kV M (ments M++[x.e0]) x.e1
    have h3:=kV M [] x.e0
    unfold lineErr joinErr sigErr at h
    rw[hr,ArY (by simp)] at h
    repeat' split at h
    all_goals (first|omega|simp at h)
 intro h
 unfold lineErr
 rw[h];rfl
theorem build_at {K:List Itm} {i:Nat} {e:Int} (hi:i<K.length) (he:errAt K i=e) (h0:e≠0) (hj:∀ j<i,errAt K j=0):build K=(Plan.zero,e,i+1):=by
 unfold build
 rw[firstE_some.2 ⟨hi,by rw[he];exact h0,hj⟩]
 simp only[he]
theorem errAt_take {L:List Itm} {i n:Nat} (h:i<n) (hn:n<=L.length):errAt (L.take n) i=errAt L i:=by
 have:=iT (M:=L.take n) (N:=L.drop n) (i:=i) (by rw[AsU];omega)
 rw[List.take_append_drop] at this
 exact this.symm
open Go It
def secG (g:Tp->En) (x:Itm):Sec:=⟨x.name,isPt x,x.n,g (tip x 0),g (tip x 1),if isPt x then g (tip x 2) else stop⟩
def upd (g:Tp->En) (t:Tp) (a:En):Tp->En:=λv=>if v=t then a else g v
def Sec.put (s:Sec) (e:Nat) (a:En):Sec:=if e=0 then { s with e0:=a } else if e=1 then { s with e1:=a } else { s with e2:=a }
def Sec.setTo (e:Nat) (v:Int) (s:Sec):Sec:=s.put e { s.get e with goes:=v }
def Sec.setAt (e:Nat) (v:Int) (s:Sec):Sec:=s.put e { s.get e with at_:=v }
def Sec.setSig (e:Nat) (v:Int) (s:Sec):Sec:=s.put e { s.get e with sig:=v }
theorem get_secG (g:Tp->En) {x:Itm} {e:Nat} (he:e<nEnds (isPt x)):(secG g x).get e=g (tip x e):=by
 unfold Sec.get
 by_cases h0:e=0
 ·rw[ArZ h0,h0];rfl
 rw[ArY h0]
 by_cases h1:e=1
 ·rw[ArZ h1,h1];rfl
 rw[ArY h1]
 have hp:isPt x=true:=by
  cases hp:isPt x with
  | true=>rfl
  | false=>rw[hp] at he;simp[nEnds] at he;omega
 have h2:e=2:=by rw[hp] at he;simp[nEnds] at he;omega
 rw[h2]
 show (if isPt x=true then g (tip x 2) else stop)=_
 rw[ArZ hp]
theorem kW {x:Itm} {e f:Nat} (he:e<nEnds (isPt x)) (hf:f<nEnds (isPt x)) (h:e≠f):tip x e≠tip x f:=λhc=>h (letter_inj he hf (congrArg Tp.c hc))
theorem AjN (g:Tp->En) (a:En) {x:Itm} {e:Nat} (he:e<nEnds (isPt x)):secG (upd g (tip x e) a) x=(secG g x).put e a:=by
 have n0:0<nEnds (isPt x):=by unfold nEnds;split <;> omega
 have n1:1<nEnds (isPt x):=by unfold nEnds;split <;> omega
 unfold Sec.put
 by_cases h0:e=0
 ·subst h0
  rw[ArZ rfl]
  unfold secG upd
  rw[ArZ rfl,ArY (kW n1 n0 (by omega))]
  by_cases hp:isPt x=true
  ·rw[ArZ hp,ArZ hp,ArY (kW (by rw[hp];decide) n0 (by omega))]
  rw[ArY hp,ArY hp]
 rw[ArY h0]
 by_cases h1:e=1
 ·subst h1
  rw[ArZ rfl]
  unfold secG upd
  rw[ArZ rfl,ArY (kW n0 n1 (by omega))]
  by_cases hp:isPt x=true
  ·rw[ArZ hp,ArZ hp,ArY (kW (by rw[hp];decide) n1 (by omega))]
  rw[ArY hp,ArY hp]
 rw[ArY h1]
 have hp:isPt x=true:=by
  cases hp:isPt x with
  | true=>rfl
  | false=>rw[hp] at he;simp[nEnds] at he;omega
 have h2:e=2:=by rw[hp] at he;simp[nEnds] at he;omega
 subst h2
 unfold secG upd
 rw[ArY (kW n0 he (by omega)),ArY (kW n1 he (by omega)),ArZ hp,ArZ hp,ArZ rfl]
theorem AaC (g:Tp->En) (a:En) {x y:Itm} {e:Nat} (h:x.name≠y.name):secG (upd g (tip y e) a) x=secG g x:=by
 have n:∀ f,tip x f≠tip y e:=λf hc=>h (congrArg Tp.n hc)
 unfold secG upd
 rw[ArY (n 0),ArY (n 1),ArY (n 2)]
theorem modify_at {α:Type} (L:List α) (i k:Nat) (f:α->α):(L.modify i f)[k]?=if i=k then(L[k]?).map f else L[k]?:=by
 rw[List.getElem?_modify]
 by_cases h:i=k
 ·subst h
  cases L[i]? <;> simp
 cases L[k]? <;> simp[h]
theorem nC {S:List Itm} (hn:(S.map (·.name)).Nodup) (g:Tp->En) (a:En) {i:Nat} {y:Itm} (hy:S[i]?=some y) {e:Nat} (he:e<nEnds (isPt y)):S.map (secG (upd g (tip y e) a))=(S.map (secG g)).modify i (λs=>s.put e a):=by
 apply List.ext_getElem?
 intro k
 rw[modify_at,List.getElem?_map,List.getElem?_map]
 cases hk:S[k]? with
 | none=>split <;> rfl
 | some x =>
   simp only[Option.map_some]
   by_cases hik:i=k
   ·subst hik
    rw[hk] at hy
    cases hy
    rw[ArZ rfl,AjN g a he]
   rw[ArY hik]
   have:x.name≠y.name:=λe=>by
    have hi:=List.getElem?_map (f:=Itm.name) (l:=S) (i:=i)
    have hk2:=List.getElem?_map (f:=Itm.name) (l:=S) (i:=k)
    rw[hy] at hi
    rw[hk] at hk2
    simp only[Option.map_some] at hi hk2
    rw[e] at hk2
    obtain⟨h1,h1'⟩:=ArM hi
    obtain⟨h2,h2'⟩:=ArM hk2
    have hp:=List.nodup_iff_pairwise_ne.1 hn
    rcases Nat.lt_or_gt_of_ne hik with h|h
    ·exact List.pairwise_iff_getElem.1 hp i k h1 h2 h (h1'.trans h2'.symm)
    exact List.pairwise_iff_getElem.1 hp k i h2 h1 h (h2'.trans h1'.symm)
   rw[AaC g a this]
theorem AaD:∀ {N:List Nm} (_:N.Nodup) (i:Nat) (nm:Nm),N[i]?=some nm->pos N nm=i
 | [],_,i,nm,hi=>by simp at hi
 | a :: N,h,0,nm,hi=>by
   obtain rfl:a=nm:=by simpa using hi
   simp[pos,List.findIdx_cons]
 | a :: N,h,i+1,nm,hi=>by
   have h':=List.nodup_cons.1 h
   have hi':N[i]?=some nm:=by simpa using hi
   have ih:=AaD h'.2 i nm hi'
   have hne:¬ a=nm:=λe=>h'.1 (e ▸ ArX hi')
   unfold pos at ih ⊢
   rw[List.findIdx_cons]
   simp[hne]
   omega
theorem iU {N R:List Nm} {nm:Nm} (h:nm∈N):pos (N++R) nm=pos N nm:=by
 unfold pos
 rw[List.findIdx_append]
 have:N.findIdx (λa=>decide (a=nm))<N.length:=List.findIdx_lt_length.2 ⟨nm,h,by simp⟩
 rw[ArZ this]
abbrev gW (M:List Itm):Tp->En:=enW (pos (nmS M)) (pos (nmG M)) M
def wS (M:List Itm):List Sec:=(secs M).map (secG (gW M))
def wG (M:List Itm):List Sig:=(sigs M).map (sigW (pos (nmS M)) M)
theorem wS_len (M:List Itm):(wS M).length=(secs M).length:=by simp[wS]
theorem wG_len (M:List Itm):(wG M).length=(sigs M).length:=by simp[wG]
theorem wS_at {M:List Itm} {i:Nat} {s:Sec} (h:(wS M)[i]?=some s):∃ x,(secs M)[i]?=some x/\s=secG (gW M) x:=by
 rw[wS,List.getElem?_map,Option.map_eq_some_iff] at h
 obtain⟨x,hx,rfl⟩:=h
 exact⟨x,hx,rfl⟩
theorem wS_of {M:List Itm} {i:Nat} {x:Itm} (h:(secs M)[i]?=some x):(wS M)[i]?=some (secG (gW M) x):=by rw[wS,List.getElem?_map,h];rfl
theorem ApG {M:List Itm} {i:Nat} {x:Itm} (h:(secs M)[i]?=some x):(nmS M)[i]?=some x.name:=by rw[nmS,List.getElem?_map,h];rfl
theorem pos_sec {M:List Itm} (hn:(nmS M).Nodup) {i:Nat} {x:Itm} (h:(secs M)[i]?=some x):pos (nmS M) x.name=i:=AaD hn i _ (ApG h)
theorem find_wS {M:List Itm} (nm:Nm):(nm ∉ nmS M/\find (wS M) nm = -1)∨∃ (i:Nat) (x:Itm),find (wS M) nm=i/\(secs M)[i]?=some x/\x.name=nm:=by
 rcases find_cases (wS M) nm with ⟨h1,h2⟩|⟨i,s,h1,h2,h3⟩
 ·refine .inl ⟨λh=>?_,h1⟩
  obtain⟨x,hx,e⟩:=mem_nmS.1 h
  exact h2 _ (List.mem_map.2 ⟨x,hx,rfl⟩) e
 obtain⟨x,hx,rfl⟩:=wS_at h2
 exact .inr ⟨i,x,h1,hx,h3⟩
theorem cP (M:List Itm) (x:Itm) (t:Tp):partner (M++[x]) t=(partner M t).or (link t x):=by
 unfold partner
 rw[List.findSome?_append]
 simp only[List.findSome?_cons,List.findSome?_nil]
 cases link t x <;> rfl
theorem nZ {M:List Itm} (hM:Ok M) {t:Tp} (h:t∈ments M):t.n∈nmS M:=by
 obtain⟨y,hy,e,_,rfl⟩:=nY hM h
 exact mem_nmS.2 ⟨y,hy,rfl⟩
theorem sZ {M:List Itm} (hM:Ok M) {x:Itm} (h:x∈sigs M):x.e0.n∈nmS M:=by
 have h9:=(sig_facts (eF.1 h).2).2.2.2.2
 obtain⟨y,hy,e,_,he⟩:=told_all hM (eF.1 h).1 (t:=x.e0) (by unfold tips;rw[ArY (by omega),ArY (by omega),ArZ h9];simp)
 exact mem_nmS.2 ⟨y,hy,by rw[he];rfl⟩
theorem bB {M:List Itm} {x:Itm} (h:isS x=false):secs (M++[x])=secs M:=by rw[aV,h];simp
theorem cC {M:List Itm} {x:Itm} (h:isG x=false):sigs (M++[x])=sigs M:=by rw[aN,h];simp
theorem cD {M:List Itm} {x:Itm} (h:isS x=false):ptOf (M++[x])=ptOf M:=by funext nm;unfold ptOf;rw[bB h]
theorem fK {M:List Itm} {x:Itm} (h:isG x=false):sigAt (M++[x])=sigAt M:=by funext t;unfold sigAt;rw[cC h]
theorem kX {x:Itm} (h7:x.k≠7) (h8:x.k≠8) (t:Tp):link t x=none:=by rw[dV,ment,ArY h7,ArY h8];simp
theorem num_snoc {M:List Itm} {x:Itm} (k:Int) (h:∀ y∈M,y.k≠x.k):num (M++[x]) k=if k=x.k then x.n else num M k:=by
 unfold num
 rw[List.find?_append]
 by_cases hk:k=x.k
 ·subst hk
  rw[ArZ rfl,List.find?_eq_none.2 λy hy=>by simpa using h y hy]
  simp
 rw[ArY hk]
 have:¬ x.k=k:=λe=>hk e.symm
 simp[this]
theorem num_other {M:List Itm} {x:Itm} {k:Int} (h:x.k≠k):num (M++[x]) k=num M k:=by
 unfold num
 rw[List.find?_append]
 simp[h]
theorem w_num {M:List Itm} {x:Itm} (hx:isNum x.k=true):wS (M++[x])=wS M/\wG (M++[x])=wG M:=by
 obtain⟨h1,h2,h7,h8,_⟩:=num_facts hx
 have ep:partner (M++[x])=partner M:=by funext t;rw[cP,kX h7 h8];simp
 have e1:gW (M++[x])=gW M:=by
  funext t
  simp only[gW,enW,ep,cD h1,fK h2,nmS,nmG,bB h1,cC h2]
 constructor
 ·rw[wS,e1,bB h1];rfl
 rw[wG,cC h2]
 unfold wG
 congr 1
 funext y
 simp only[sigW,cD h1,nmS,bB h1]
def openE:En:=⟨-2,0,-1⟩
theorem w_sec {M:List Itm} {x:Itm} (hM:Ok M) (hx:isS x=true) (hn:x.name ∉ nmS M):wS (M++[x])=wS M++[⟨x.name,isPt x,x.n,openE,openE,if isPt x then openE else stop⟩]/\wG (M++[x])=wG M:=by
 obtain⟨_,h2,h7,h8,_⟩:=sec_facts hx
 have es:secs (M++[x])=secs M++[x]:=by rw[aV,ArZ hx]
 have en:nmS (M++[x])=nmS M++[x.name]:=by rw[nmS,es,List.map_append];rfl
 have ep:partner (M++[x])=partner M:=by funext t;rw[cP,kX h7 h8];simp
 have ept:∀ nm,nm∈nmS M->ptOf (M++[x]) nm=ptOf M nm:=λnm h=>by
  obtain⟨y,hy,rfl⟩:=mem_nmS.1 h
  unfold ptOf
  rw[es,gT (f:=Itm.name) hM.names hy,List.find?_append,gT (f:=Itm.name) hM.names hy]
  rfl
 have e1:∀ t,gW (M++[x]) t=gW M t:=λt=>by
  simp only[gW,enW,ep,fK h2,nmG,cC h2]
  cases hp:partner M t with
  | none=>rfl
  | some v =>
    cases v with
    | none=>rfl
    | some u =>
      have hu:=nZ hM (partner_ments (t:=u) (by rw[(eP hM.ments hp).1];simp))
      simp only[en,iU hu,ept _ hu]
 have e0:∀ e,gW M (tip x e)=openE:=λe=>by
  have hp:partner M (tip x e)=none:=partner_none.2 λh=>hn (nZ hM h)
  have hs:sigAt M (tip x e)=none:=by
   cases h:sigAt M (tip x e) with
   | none=>rfl
   | some g =>
     obtain⟨y,hy,h3,_⟩:=eH h
     exact absurd (sZ hM hy) (by rw[h3];exact hn)
  simp only[gW,enW,hp,hs];rfl
 constructor
 ·rw[wS,es,List.map_append,show gW (M++[x])=gW M from funext e1]
  unfold wS
  congr 1
  show [secG (gW M) x]=_
  unfold secG
  rw[e0,e0,e0]
 rw[wG,cC h2]
 unfold wG
 refine List.map_congr_left λy hy=>?_
 have:=sZ hM hy
 simp only[sigW,en,iU this,ept _ this]
theorem w_stop {M:List Itm} {x:Itm} (hM:Ok M) (h8:x.k=8) (hm:x.e0 ∉ ments M) {i:Nat} {y:Itm} (hy:(secs M)[i]?=some y) {e:Nat} (he:e<nEnds (isPt y)) (ht:x.e0=tip y e) :
 wS (M++[x])=(wS M).modify i (Sec.setTo e (-1))/\wG (M++[x])=wG M:=by
 obtain⟨h0,h1,h2⟩:=end_facts (x:=x) (.inr h8)
 have eg:gW (M++[x])=upd (gW M) (tip y e) ⟨-1,0,(gW M (tip y e)).sig⟩:=by
  funext v
  unfold upd
  simp only[gW,enW,cP,cD h1,fK h2,nmS,nmG,bB h1,cC h2]
  by_cases hv:v=tip y e
  ·subst hv
   rw[ArZ rfl]
   rw[ht] at hm
   rw[partner_none.2 hm]
   have:link (tip y e) x=some none:=by unfold link;rw[ArY (by omega),ArZ ⟨h8,ht⟩]
   rw[this];rfl
  rw[ArY hv]
  have:link v x=none:=by unfold link;rw[ArY (by omega),ArY (λh=>hv (by rw[<-h.2,ht]))]
  rw[this]
  simp
 constructor
 ·rw[wS,eg,bB h1,nC hM.names _ _ hy he]
  apply List.ext_getElem?
  intro k
  rw[modify_at,modify_at]
  by_cases hik:i=k
  ·subst hik
   rw[ArZ rfl,ArZ rfl,<-wS,wS_of hy]
   show some _=some _
   congr 1
   unfold Sec.setTo
   rw[get_secG _ he]
   have hp:partner M (tip y e)=none:=partner_none.2 (by rw[<-ht];exact hm)
   simp only[gW,enW,hp]
  rw[ArY hik,ArY hik];rfl
 rw[wG,cC h2]
 unfold wG
 congr 1
 funext z
 simp only[sigW,cD h1,nmS,bB h1]
theorem w_join {M:List Itm} {x:Itm} (hM:Ok M) (h7:x.k=7) (hm:x.e0 ∉ ments M) (hm1:x.e1 ∉ ments M) (hne:x.e0≠x.e1) {i j:Nat} {y z:Itm} (hy:(secs M)[i]?=some y) (hz:(secs M)[j]?=some z) {e f:Nat} (he:e<nEnds (isPt y)) (hf:f<nEnds (isPt z)) (ht:x.e0=tip y e) (hu:x.e1=tip z f) :
 wS (M++[x])=((wS M).modify i (λs=>s.put e ⟨j,f,(gW M (tip y e)).sig⟩)).modify j (λs=>s.put f ⟨i,e,(gW M (tip z f)).sig⟩)/\wG (M++[x])=wG M:=by
 obtain⟨h0,h1,h2⟩:=end_facts (x:=x) (.inl h7)
 have hys:y∈secs M:=ArX hy
 have hzs:z∈secs M:=ArX hz
 have eg:gW (M++[x])=upd (upd (gW M) (tip y e) ⟨j,f,(gW M (tip y e)).sig⟩) (tip z f) ⟨i,e,(gW M (tip z f)).sig⟩:=by
  funext v
  unfold upd
  simp only[gW,enW,cP,cD h1,fK h2,nmS,nmG,bB h1,cC h2]
  by_cases hv:v=tip z f
  ·subst hv
   rw[ArZ rfl]
   rw[hu] at hm1
   rw[partner_none.2 hm1]
   have:link (tip z f) x=some (some (tip y e)):=by unfold link;rw[ArZ h7,ArY (by rw[<-hu];exact hne),ArZ hu,ht]
   rw[this]
   have hpos:pos ((secs M).map (·.name)) (tip y e).n=i:=pos_sec hM.names hy
   simp only[Option.none_or,hpos,tip_at hM hys he,Option.getD_some]
  rw[ArY hv]
  by_cases hv2:v=tip y e
  ·subst hv2
   rw[ArZ rfl]
   rw[ht] at hm
   rw[partner_none.2 hm]
   have:link (tip y e) x=some (some (tip z f)):=by unfold link;rw[ArZ h7,ArZ ht,hu]
   rw[this]
   have hpos:pos ((secs M).map (·.name)) (tip z f).n=j:=pos_sec hM.names hz
   simp only[Option.none_or,hpos,tip_at hM hzs hf,Option.getD_some]
  rw[ArY hv2]
  have:link v x=none:=by unfold link;rw[ArZ h7,ArY (λh=>hv2 (by rw[<-h,ht])),ArY (λh=>hv (by rw[<-h,hu]))]
  rw[this]
  simp
 constructor
 ·rw[wS,eg,bB h1,nC hM.names _ _ hz hf,nC hM.names _ _ hy he];rfl
 rw[wG,cC h2]
 unfold wG
 congr 1
 funext z
 simp only[sigW,cD h1,nmS,bB h1]
theorem w_sig {M:List Itm} {x:Itm} (hM:Ok M) (hg:isG x=true) (hn:x.name ∉ nmG M) (hs:x.e0 ∉ (sigs M).map (·.e0)) {i:Nat} {y:Itm} (hy:(secs M)[i]?=some y) {e:Nat} (he:e<nEnds (isPt y)) (ht:x.e0=tip y e) :
 wS (M++[x])=(wS M).modify i (Sec.setSig e (wG M).length)/\wG (M++[x])=wG M++[⟨x.name,i,e⟩]:=by
 obtain⟨_,h1,h7,h8,_⟩:=sig_facts hg
 have eG:sigs (M++[x])=sigs M++[x]:=by rw[aN,ArZ hg]
 have hys:y∈secs M:=ArX hy
 have enG:nmG (M++[x])=nmG M++[x.name]:=by rw[nmG,eG,List.map_append];rfl
 have ep:partner (M++[x])=partner M:=by funext t;rw[cP,kX h7 h8];simp
 have hlast:pos (nmG M++[x.name]) x.name=(wG M).length:=by
  have:(nmG M++[x.name]).Nodup:=aU.2 ⟨hM.gnames,hn⟩
  rw[AaD this (nmG M).length x.name (by simp),wG_len,nmG,AsH]
 have eg:gW (M++[x])=upd (gW M) (tip y e) { gW M (tip y e) with sig:=(wG M).length }:=by
  funext v
  unfold upd
  have hsv:sigAt (M++[x]) v=(sigAt M v).or (if x.e0=v then some x.name else none):=by
   unfold sigAt
   rw[eG,List.find?_append]
   by_cases hv:x.e0=v
   ·rw[ArZ hv]
    cases (sigs M).find? λz=>decide (z.e0=v) <;> simp[hv]
   rw[ArY hv]
   cases (sigs M).find? λz=>decide (z.e0=v) <;> simp[hv]
  by_cases hv:v=tip y e
  ·subst hv
   rw[ArZ rfl]
   have hno:sigAt M (tip y e)=none:=by
    have:=sigAt_none.2 hs
    rw[ht] at this
    cases h:sigAt M (tip y e) with
    | none=>rfl
    | some g=>rw[h] at this;cases this
   simp only[gW,enW,ep,cD h1,nmS,bB h1,hsv,hno,ArZ ht,Option.none_or,enG,hlast]
  rw[ArY hv]
  rw[ArY (λh=>hv (by rw[<-h,ht])),Option.or_none] at hsv
  simp only[gW,enW,ep,cD h1,nmS,bB h1,hsv,enG]
  cases h:sigAt M v with
  | none=>rfl
  | some g =>
    obtain⟨z,hz,_,rfl⟩:=eH h
    simp only[iU (show z.name∈nmG M from List.mem_map.2 ⟨z,hz,rfl⟩)]
 constructor
 ·rw[wS,eg,bB h1,nC hM.names _ _ hy he]
  apply List.ext_getElem?
  intro k
  rw[modify_at,modify_at]
  by_cases hik:i=k
  ·subst hik
   rw[ArZ rfl,ArZ rfl,<-wS,wS_of hy]
   show some _=some _
   congr 1
   unfold Sec.setSig
   rw[get_secG _ he]
  rw[ArY hik,ArY hik];rfl
 have e1:∀ z,sigW (pos (nmS (M++[x]))) (M++[x]) z=sigW (pos (nmS M)) M z:=λz=>by simp only[sigW,cD h1,nmS,bB h1]
 rw[wG,eG,List.map_append,show sigW (pos (nmS (M++[x]))) (M++[x])=sigW (pos (nmS M)) M from funext e1]
 unfold wG
 congr 1
 show [sigW (pos (nmS M)) M x]=_
 unfold sigW
 rw[ht,tip_at hM hys he,show (tip y e).n=y.name from rfl,pos_sec hM.names hy]
 rfl
def ranks (N:List Nm):List Int:=N.map (rank N)
def ren1 (R:List Int) (v:Int):Int:=if 0<=v then R.getD v.toNat 0 else v
def gD (R Q:List Int) (e:En):En:=⟨ren1 R e.goes,e.at_,ren1 Q e.sig⟩
def renSec (R Q:List Int) (s:Sec):Sec:=⟨s.name,s.pt,s.len,gD R Q s.e0,gD R Q s.e1,gD R Q s.e2⟩
def renSig (R:List Int) (g:Sig):Sig:=⟨g.name,ren1 R g.sec,g.en⟩
theorem ranks_len (N:List Nm):(ranks N).length=N.length:=by simp[ranks]
theorem ranks_at {N:List Nm} {i:Nat} {nm:Nm} (h:N[i]?=some nm):(ranks N)[i]?=some (rank N nm):=by rw[ranks,List.getElem?_map,h];rfl
theorem tA {N:List Nm} {nm:Nm} (h:nm∈N):ren1 (ranks N) (pos N nm)=rank N nm:=by
 have hl:N.findIdx (λa=>decide (a=nm))<N.length:=List.findIdx_lt_length.2 ⟨nm,h,by simp⟩
 have he:=List.findIdx_getElem (xs:=N) (p:=λa=>decide (a=nm)) (w:=hl)
 have he':N[N.findIdx (λa=>decide (a=nm))]=nm:=of_decide_eq_true he
 unfold ren1 pos
 rw[ArZ (by omega),List.getD_eq_getElem?_getD,AsP,ranks_at (ArN hl),he']
 rfl
theorem gV {R:List Int} {v:Int} (h:v<0):ren1 R v=v:=by unfold ren1;rw[ArY (by omega)]
theorem oA {M:List Itm} (hM:Ok M) {t u:Tp} (h:partner M t=some (some u)):u.n∈nmS M:=by
 have h2:=(eP hM.ments h).1
 refine nZ hM (t:=u) (Classical.byContradiction λhc=>?_)
 rw[partner_none.2 hc] at h2
 cases h2
theorem AaE {M:List Itm} (hM:Ok M) (t:Tp):gD (ranks (nmS M)) (ranks (nmG M)) (gW M t)=enW (rank (nmS M)) (rank (nmG M)) M t:=by
 unfold gD gW enW
 congr 1
 ·rcases hp:partner M t with _|_|u
  ·exact gV (show (-2:Int)<0 by decide)
  ·exact gV (show (-1:Int)<0 by decide)
  exact tA (oA hM hp)
 rcases hs:sigAt M t with _|g
 ·exact gV (show (-1:Int)<0 by decide)
 obtain⟨x,hx,-,rfl⟩:=eH hs
 exact tA (List.mem_map.2 ⟨x,hx,rfl⟩)
theorem AjO (R Q:List Int):gD R Q stop=stop:=by
 unfold gD stop
 rw[gV (by decide)]
 congr 1
theorem AnH {M:List Itm} (hM:Ok M) (x:Itm):renSec (ranks (nmS M)) (ranks (nmG M)) (secG (gW M) x)=AiZ (rank (nmS M)) (rank (nmG M)) M x:=by
 unfold renSec secG AiZ
 simp only
 rw[AaE hM,AaE hM]
 congr 1
 cases isPt x
 ·exact AjO _ _
 exact AaE hM _
theorem AnI {M:List Itm} (hM:Ok M) {x:Itm} (hx:x∈sigs M):renSig (ranks (nmS M)) (sigW (pos (nmS M)) M x)=sigW (rank (nmS M)) M x:=by
 unfold renSig sigW
 congr 1
 exact tA (sZ hM hx)
theorem fin_secs_len (M:List Itm):(fin M).secs.length=(wS M).length:=by simp[fin,wS,eX]
theorem fin_sigs_len (M:List Itm):(fin M).sigs.length=(wG M).length:=by simp[fin,wG,eX]
theorem gE {l:List Itm}:((isort Itm.name l).map (·.name)).Perm (l.map (·.name)):=(cJ Itm.name l).map _
theorem AaF {M:List Itm} (hM:Ok M) {i:Nat} {s:Sec} (h:(wS M)[i]?=some s) :
 (fin M).secs[(rank (nmS M) s.name).toNat]?=some (renSec (ranks (nmS M)) (ranks (nmG M)) s):=by
 obtain⟨x,hx,rfl⟩:=wS_at h
 rw[AnH hM]
 have h1:=mZ (cV Itm.name (secs M) hM.names) ((eY Itm.name).2 (ArX hx))
 rw[cW gE] at h1
 show ((isort Itm.name (secs M)).map (AiZ (rank (nmS M)) (rank (nmG M)) M))[(rank (nmS M) x.name).toNat]?=_
 rw[List.getElem?_map]
 rw[show (isort Itm.name (secs M))[(rank (nmS M) x.name).toNat]?=some x from h1]
 rfl
theorem AaG {M:List Itm} (hM:Ok M) {i:Nat} {g:Sig} (h:(wG M)[i]?=some g) :
 (fin M).sigs[(rank (nmG M) g.name).toNat]?=some (renSig (ranks (nmS M)) g):=by
 rw[wG,List.getElem?_map,Option.map_eq_some_iff] at h
 obtain⟨x,hx,rfl⟩:=h
 rw[AnI hM (ArX hx)]
 have h1:=mZ (cV Itm.name (sigs M) hM.gnames) ((eY Itm.name).2 (ArX hx))
 rw[cW gE] at h1
 show ((isort Itm.name (sigs M)).map (sigW (rank (nmS M)) M))[(rank (nmG M) x.name).toNat]?=_
 rw[List.getElem?_map]
 rw[show (isort Itm.name (sigs M))[(rank (nmG M) x.name).toNat]?=some x from h1]
 rfl
theorem qS {l:List Itm} (hn:(l.map (·.name)).Nodup) {p:Nat} (hp:p<l.length):∃ i,i<l.length/\∀ nm,(l.map (·.name))[i]?=some nm->(rank (l.map (·.name)) nm).toNat=p:=by
 have hp':p<(isort Itm.name l).length:=by rw[eX];exact hp
 have hm:(isort Itm.name l)[p]∈l:=(eY Itm.name).1 (List.getElem_mem hp')
 obtain⟨i,hi,e⟩:=List.getElem_of_mem hm
 refine⟨i,hi,λnm h=>?_⟩
 rw[List.getElem?_map,ArN hi] at h
 obtain rfl:l[i].name=nm:=by simpa using h
 rw[<-cW gE,jL (jM (cV Itm.name l hn)) p _ (by rw[List.getElem?_map,ArN hp',<-e];rfl)]
 simp
theorem AaH {N:List Nm} {nm:Nm} (h:nm∈N):pos N nm<N.length:=by
 have hl:N.findIdx (λa=>decide (a=nm))<N.length:=List.findIdx_lt_length.2 ⟨nm,h,by simp⟩
 unfold pos;omega
theorem AqL {M:List Itm} (hM:Ok M) (t:Tp):(gW M t).goes<(nmS M).length/\(gW M t).sig<(nmG M).length:=by
 unfold gW enW
 constructor
 ·rcases hp:partner M t with _|_|u
  ·show (-2:Int)<_;omega
  ·show (-1:Int)<_;omega
  exact AaH (oA hM hp)
 rcases hs:sigAt M t with _|g
 ·show (-1:Int)<_;omega
 obtain⟨x,hx,-,rfl⟩:=eH hs
 exact AaH (List.mem_map.2 ⟨x,hx,rfl⟩)
theorem nmS_len (M:List Itm):(nmS M).length=(wS M).length:=by simp[nmS,wS]
theorem nmG_len (M:List Itm):(nmG M).length=(wG M).length:=by simp[nmG,wG]
theorem wS_ends {M:List Itm} (hM:Ok M) {i:Nat} {s:Sec} (h:(wS M)[i]?=some s) (e:Nat):(s.get e).goes<(wS M).length/\(s.get e).sig<(wG M).length:=by
 obtain⟨x,-,rfl⟩:=wS_at h
 have g:=λt=>AqL hM t
 rw[nmS_len,nmG_len] at g
 unfold Sec.get secG
 by_cases h0:e=0
 ·rw[ArZ h0];exact g _
 rw[ArY h0]
 by_cases h1:e=1
 ·rw[ArZ h1];exact g _
 rw[ArY h1]
 simp only
 by_cases hp:isPt x=true
 ·rw[ArZ hp];exact g _
 rw[ArY hp]
 constructor
 ·show (-1:Int)<_;omega
 show (-1:Int)<_;omega
theorem wG_sec {M:List Itm} (hM:Ok M) {i:Nat} {g:Sig} (h:(wG M)[i]?=some g):0<=g.sec/\g.sec<(wS M).length:=by
 rw[wG,List.getElem?_map,Option.map_eq_some_iff] at h
 obtain⟨x,hx,rfl⟩:=h
 rw[<-nmS_len]
 exact⟨by show 0<=pos _ _;unfold pos;omega,AaH (sZ hM (ArX hx))⟩
theorem ren1_at {N:List Nm} {t:Nat} (h:t<N.length):(ranks N)[t]?=some (ren1 (ranks N) t):=by
 unfold ren1
 rw[ArZ (by omega),AsP,List.getD_eq_getElem?_getD,ArN (by rw[ranks_len];exact h)]
 rfl
theorem wS_name_mem {M:List Itm} {i:Nat} {s:Sec} (h:(wS M)[i]?=some s):s.name∈nmS M:=by
 obtain⟨x,hx,rfl⟩:=wS_at h
 exact List.mem_map.2 ⟨x,ArX hx,rfl⟩
theorem wG_name_mem {M:List Itm} {i:Nat} {g:Sig} (h:(wG M)[i]?=some g):g.name∈nmG M:=by
 rw[wG,List.getElem?_map,Option.map_eq_some_iff] at h
 obtain⟨x,hx,rfl⟩:=h
 exact List.mem_map.2 ⟨x,ArX hx,rfl⟩
theorem secs_whole {M:List Itm} (hM:Ok M) {X:List Sec} (hl:X.length=(wS M).length)
 (h:∀ (j:Nat) (s:Sec),(wS M)[j]?=some s->X[(rank (nmS M) s.name).toNat]?=some (renSec (ranks (nmS M)) (ranks (nmG M)) s)):X=(fin M).secs:=by
 apply List.ext_getElem?
 intro p
 by_cases hp:p<(secs M).length
 ·obtain⟨i,hi,hr⟩:=qS (l:=secs M) hM.names hp
  have hs:=wS_of (M:=M) (ArN hi)
  have e:=hr (secs M)[i].name (by rw[List.getElem?_map,ArN hi];rfl)
  have h1:=h i _ hs
  have h2:=AaF hM hs
  have e':(rank (nmS M) (secG (gW M) (secs M)[i]).name).toNat=p:=e
  rw[e'] at h1 h2
  rw[h1,h2]
 rw[List.getElem?_eq_none (by rw[hl,wS_len];omega),List.getElem?_eq_none (by rw[fin_secs_len,wS_len];omega)]
theorem sigs_whole {M:List Itm} (hM:Ok M) {X:List Sig} (hl:X.length=(wG M).length)
 (h:∀ (j:Nat) (g:Sig),(wG M)[j]?=some g->X[(rank (nmG M) g.name).toNat]?=some (renSig (ranks (nmS M)) g)):X=(fin M).sigs:=by
 apply List.ext_getElem?
 intro p
 by_cases hp:p<(sigs M).length
 ·obtain⟨i,hi,hr⟩:=qS (l:=sigs M) hM.gnames hp
  have hs:(wG M)[i]?=some (sigW (pos (nmS M)) M (sigs M)[i]):=by rw[wG,List.getElem?_map,ArN hi];rfl
  have e:=hr (sigs M)[i].name (by rw[List.getElem?_map,ArN hi];rfl)
  have h1:=h i _ hs
  have h2:=AaG hM hs
  have e':(rank (nmG M) (sigW (pos (nmS M)) M (sigs M)[i]).name).toNat=p:=e
  rw[e'] at h1 h2
  rw[h1,h2]
 rw[List.getElem?_eq_none (by rw[hl,wG_len];omega),List.getElem?_eq_none (by rw[fin_sigs_len,wG_len];omega)]
theorem told_more {α:Type} {L:List α} {n:Nat} (key:α->Nat) (out:α->α) {X:List α} {i:Nat} {a:α} (hi:L[i]?=some a) (hlt:∀ b∈L,key b<n) (hX:X.length=n)
 (hinj:∀ (j:Nat) (b:α),j<i->L[j]?=some b->key b≠key a) (h:∀ (j:Nat) (b:α),j<i->L[j]?=some b->X[key b]?=some (out b)) :
 ∀ (j:Nat) (b:α),j<i+1->L[j]?=some b->(X.set (key a) (out a))[key b]?=some (out b):=λj b hj hb=>by
 rcases Nat.lt_succ_iff_lt_or_eq.1 hj with h1|rfl
 ·rw[List.getElem?_set_ne (Ne.symm (hinj j b h1 hb))];exact h j b h1 hb
 rw[hi] at hb
 cases hb
 rw[List.getElem?_set_self (by rw[hX];exact hlt a (ArX hi))]
theorem names_apart {α:Type} {L:List α} (f:α->Nm) (hn:(L.map f).Nodup) {i j:Nat} {a b:α} (hi:L[i]?=some a) (hj:L[j]?=some b) (h:j<i):rank (L.map f) (f b)≠rank (L.map f) (f a):=λhc=>by
 have ha:f a∈L.map f:=List.mem_map.2 ⟨a,ArX hi,rfl⟩
 have hb:f b∈L.map f:=List.mem_map.2 ⟨b,ArX hj,rfl⟩
 have e:=AjD hb ha hc
 obtain⟨h1,h1'⟩:=ArM hi
 obtain⟨h2,h2'⟩:=ArM hj
 have hp:=List.nodup_iff_pairwise_ne.1 hn
 have:=List.pairwise_iff_getElem.1 hp j i (by simpa using h2) (by simpa using h1) h
 simp only[List.getElem_map] at this
 rw[h1',h2'] at this
 exact this e
def Upto (R Q:List Int) (e:Nat) (s t:Sec):Prop:=t.name=s.name/\t.pt=s.pt/\t.len=s.len/\(∀ f,f<3->f<e->t.get f=gD R Q (s.get f))/\∀ f,f<3->e<=f->t.get f=s.get f
theorem Upto.zero (R Q:List Int) (s:Sec):Upto R Q 0 s s:=⟨rfl,rfl,rfl,λf _ h=>absurd h (Nat.not_lt_zero f),λ_ _ _=>rfl⟩
theorem nD {s:Sec} {e f:Nat} {a:En} (he:e<3) (hf:f<3):(s.put e a).get f=if f=e then a else s.get f:=by
 have h1:e=0∨e=1∨e=2:=by omega
 have h2:f=0∨f=1∨f=2:=by omega
 rcases h1 with rfl|rfl|rfl <;> rcases h2 with rfl|rfl|rfl <;> rfl
theorem AjP (s:Sec) (e:Nat) (a:En):(s.put e a).name=s.name/\(s.put e a).pt=s.pt/\(s.put e a).len=s.len:=by
 unfold Sec.put;split
 ·exact⟨rfl,rfl,rfl⟩
 split <;> exact⟨rfl,rfl,rfl⟩
theorem Upto.next {R Q:List Int} {e:Nat} {s t:Sec} (h:Upto R Q e s t) (he:e<3):Upto R Q (e+1) s (t.put e (gD R Q (s.get e))):=by
 obtain⟨h1,h2,h3,h4,h5⟩:=h
 obtain⟨p1,p2,p3⟩:=AjP t e (gD R Q (s.get e))
 refine⟨p1.trans h1,p2.trans h2,p3.trans h3,λf hf hlt=>?_,λf hf hle=>?_⟩
 ·rw[nD he hf]
  by_cases hfe:f=e
  ·rw[ArZ hfe,hfe]
  rw[ArY hfe];exact h4 f hf (by omega)
 rw[nD he hf,ArY (by omega)];exact h5 f hf (by omega)
theorem Upto.done {R Q:List Int} {s t:Sec} (h:Upto R Q 3 s t):t=renSec R Q s:=by
 obtain⟨h1,h2,h3,h4,-⟩:=h
 have e0:=h4 0 (by decide) (by decide)
 have e1:=h4 1 (by decide) (by decide)
 have e2:=h4 2 (by decide) (by decide)
 cases t
 cases s
 simp only[Sec.get] at e0 e1 e2
 simp only at h1 h2 h3
 subst h1 h2 h3
 unfold renSec
 simp_all
theorem put_ren {R Q:List Int} {e:Nat} {s t:Sec} (h:Upto R Q e s t) (he:e<3):(t.put e (gD R Q (s.get e)))=(t.setTo e (ren1 R (t.get e).goes)).setSig e (ren1 Q (t.get e).sig):=by
 have hg:=h.2.2.2.2 e he (ArR e)
 rw[<-hg]
 unfold Sec.setSig Sec.setTo
 have h1:e=0∨e=1∨e=2:=by omega
 rcases h1 with rfl|rfl|rfl <;> rfl
theorem setTo_same {t:Sec} {e:Nat} {R:List Int} (he:e<3) (h:(t.get e).goes<0):t.setTo e (ren1 R (t.get e).goes)=t:=by
 rw[gV h]
 have h1:e=0∨e=1∨e=2:=by omega
 rcases h1 with rfl|rfl|rfl <;> rfl
theorem setSig_same {t:Sec} {e:Nat} {Q:List Int} (he:e<3) (h:(t.get e).sig<0):t.setSig e (ren1 Q (t.get e).sig)=t:=by
 rw[gV h]
 have h1:e=0∨e=1∨e=2:=by omega
 rcases h1 with rfl|rfl|rfl <;> rfl
theorem setTo_get_sig {t:Sec} {e:Nat} (v:Int) (he:e<3):((t.setTo e v).get e).sig=(t.get e).sig:=by
 have h1:e=0∨e=1∨e=2:=by omega
 rcases h1 with rfl|rfl|rfl <;> rfl
def ApH (e:En):En:=⟨e.goes,e.at_,-1⟩
def clr (s:Sec):Sec:=⟨s.name,s.pt,s.len,ApH s.e0,ApH s.e1,ApH s.e2⟩
def dS (M:List Itm):List Sec:=(wS M).map clr
structure Fit (p:Plan):Prop where
 ends:∀ (i:Nat) (s:Sec),p.secs[i]?=some s->∀ e,e<3->-1<=(s.get e).goes/\(s.get e).goes<p.secs.length/\(0<=(s.get e).goes->0<=(s.get e).at_/\(s.get e).at_<=2)
 plain:∀ (i:Nat) (s:Sec),p.secs[i]?=some s->s.pt=false->(s.get 2).goes = -1
 sigs:∀ (i:Nat) (g:Sig),p.sigs[i]?=some g->0<=g.sec/\g.sec<p.secs.length/\0<=g.en/\g.en<=2
 few:p.secs.length<=24
 gfew:p.sigs.length<=12
theorem fit_fin {L:List Itm} (hL:Ok L) (hS:Shut L):Fit (fin L) where
 ends i s hs e he:=by
  rcases qR hL hS hs he with h|⟨_,-,-,-,-,-,h1,-,-⟩|⟨_,j,f,t,-,-,-,-,hj,hf,h1,h2,-⟩
  ·rw[h]
   refine⟨by decide,?_,λh0=>absurd h0 (by decide)⟩
   have:=(ArM hs).1
   show (-1:Int)<_
   omega
  ·refine⟨by omega,?_,λh0=>by omega⟩
   have:=(ArM hs).1
   omega
  have:=(ArM hj).1
  exact⟨by omega,by omega,λ_=>⟨by omega,by omega⟩⟩
 plain i s hs hp:=by
  show s.e2.goes = -1
  rw[AfK hL hs hp];rfl
 sigs i g hg:=by
  obtain⟨j,f,t,hj,hf,h1,h2,-⟩:=AfL hL hg
  have:=(ArM hj).1
  exact⟨by omega,by omega,by omega,by omega⟩
 few:=by rw[AjL];exact hL.few
 gfew:=by rw[AjM];exact hL.gfew
def upTo (f:Nat × Nat->Option Itm) (i e:Nat):List Itm:=((List.range i).flatMap λs=>(List.range 3).filterMap λe=>f (s,e))++(List.range e).filterMap λe=>f (i,e)
theorem wA (f:Nat × Nat->Option Itm):∀ i,((List.range i).flatMap λs=>(List.range 3).filterMap λe=>f (s,e)).length<=3*i
 | 0=>ArR _
 | i+1=>by
   rw[List.range_succ (n:=i),List.flatMap_append,ArV]
   have h1:=wA f i
   have h2:((List.range 3).filterMap λe=>f (i,e)).length<=3:=ArS (List.length_filterMap_le _ _) (by simp)
   simp only[List.flatMap_cons,List.flatMap_nil,AsM]
   omega
theorem jO (f:Nat × Nat->Option Itm) (i e:Nat):(upTo f i e).length<=3*i+e:=by
 unfold upTo
 rw[ArV]
 have h1:=wA f i
 have h2:((List.range e).filterMap λe=>f (i,e)).length<=e:=ArS (List.length_filterMap_le _ _) (by simp)
 omega
theorem jP {p:Plan} {f g:Nat × Nat->Option Itm} (hf:∀ (i:Nat) (s:Sec),p.secs[i]?=some s->∀ e,e<3->e<nEnds s.pt->f (i,e)=g (i,e)) (hn:∀ (i:Nat) (s:Sec),p.secs[i]?=some s->s.pt=false->f (i,2)=none):upTo f p.secs.length 0=(eE p).filterMap g:=by
 have e0:upTo f p.secs.length 0=(List.range p.secs.length).flatMap λs=>(List.range 3).filterMap λe=>f (s,e):=by unfold upTo;simp
 rw[e0,eE,List.filterMap_flatMap]
 have : ∀ l:List Nat,(∀ s∈l,s<p.secs.length)->(l.flatMap λs=>(List.range 3).filterMap λe=>f (s,e))=l.flatMap λs=>((List.range (nEnds (((p.secs[s]?).map Sec.pt).getD false))).map λe=>(s,e)).filterMap g:=by
  intro l hl
  induction l with
  | nil=>rfl
  | cons s l ih =>
    rw[List.flatMap_cons,List.flatMap_cons,ih λt ht=>hl t (List.mem_cons_of_mem _ ht)]
    congr 1
    have hs:=hl s (List.mem_cons_self ..)
    have hx:=ArN hs
    generalize p.secs[s]=x at hx
    rw[hx,Option.map_some,Option.getD_some,List.filterMap_map]
    cases hp:x.pt with
    | true =>
      have h0:=hf s x hx 0 (by decide) (by rw[hp];decide)
      have h1:=hf s x hx 1 (by decide) (by rw[hp];decide)
      have h2:=hf s x hx 2 (by decide) (by rw[hp];decide)
      simp only[nEnds,if_true,List.range,List.range.loop,List.filterMap_cons,List.filterMap_nil,h0,h1,h2,Function.comp]
    | false =>
      have h0:=hf s x hx 0 (by decide) (by rw[hp];decide)
      have h1:=hf s x hx 1 (by decide) (by rw[hp];decide)
      have h2:=hn s x hx hp
      simp only[nEnds,Bool.false_eq_true,if_false,List.range,List.range.loop,List.filterMap_cons,List.filterMap_nil,h0,h1,h2,Function.comp]
 exact this _ λs hs=>List.mem_range.1 hs
end Go.Proofs.YtjofpclmbjpgjaaGreat.Pl
namespace Go.Proofs.YtjofpclmbjpgjaaGreat.Wk
open Go Pl
structure Stp where
 s:Int
 f:Int
 t:Int
deriving DecidableEq
def secAt (p:Plan) (s:Int):Option Sec:=if s<0 then none else p.secs[s.toNat]?
def outs (p:Plan) (s f:Int):List Stp :=
 match secAt p s with
 | none=>[]
 | some x=>if x.pt then(if f=0 then [⟨s,0,1⟩,⟨s,0,2⟩] else if f=1∨f=2 then [⟨s,f,0⟩] else []) else if f=0∨f=1 then [⟨s,f,1-f⟩] else []
def isEnd (x:Sec) (e:Int):Bool:=decide (0<=e) && (decide (e<=2) && (decide (e≠2) || x.pt))
def endOf (p:Plan) (s e:Int):Option En :=
 match secAt p s with
 | none=>none
 | some x=>if isEnd x e then some (x.get e.toNat) else none
def next (p:Plan) (s e:Int):Int × Int × Bool :=
 match endOf p s e with
 | none=>(0,0,false)
 | some x=>if x.goes<0 then(0,0,false) else(x.goes,x.at_,true)
def signal (p:Plan) (s e:Int):Int :=
 match endOf p s e with
 | none=>-1
 | some x=>x.sig
def isPoint (p:Plan) (s:Int):Bool:=((secAt p s).map Sec.pt).getD false
def position (p:Plan) (x:Stp):Int:=if isPoint p x.s then max (max x.f x.t) 0 else 0
def within (l:List Stp) (s:Int):Bool:=l.any λx=>decide (x.s=s)
theorem AfM {p:Plan} {s:Int} (h:s<0):secAt p s=none:=by unfold secAt;rw[ArZ h]
theorem qT {p:Plan} {k:Nat} (h:p.secs.length<=k):secAt p (k:Int)=none:=by
 unfold secAt
 rw[ArY (by omega),AsP,List.getElem?_eq_none h]
theorem secAt_some {p:Plan} {k:Nat} {x:Sec} (h:p.secs[k]?=some x):secAt p (k:Int)=some x:=by
 unfold secAt
 rw[ArY (by omega),AsP,h]
theorem sec_ways (p:Plan) (s:Int):(s<0/\secAt p s=none)∨∃ k:Nat,s=k/\((p.secs.length<=k/\secAt p (k:Int)=none)∨∃ x,p.secs[k]?=some x/\secAt p (k:Int)=some x):=by
 by_cases h:s<0
 ·exact .inl ⟨h,AfM h⟩
 refine .inr ⟨s.toNat,by omega,?_⟩
 by_cases hk:p.secs.length<=s.toNat
 ·exact .inl ⟨hk,qT hk⟩
 exact .inr ⟨_,ArN (by omega),secAt_some (ArN (by omega))⟩
theorem outs_len (p:Plan) (s f:Int):(outs p s f).length<=2:=by
 unfold outs
 split
 ·exact AsD _
 split
 ·split
  ·exact ArR _
  split
  ·exact Nat.le_succ _
  exact AsD _
 split
 ·exact Nat.le_succ _
 exact AsD _
theorem AjQ {x:Sec} {e:Int} (h:isEnd x e=true):0<=e/\e<=2:=by
 unfold isEnd at h
 simp only[AsF,decide_eq_true_eq] at h
 exact⟨h.1,h.2.1⟩
end Go.Proofs.YtjofpclmbjpgjaaGreat.Wk
namespace Go.Proofs.YtjofpclmbjpgjaaGreat.Cr
open Go Pl Wk
structure Way where
 steps:List Stp
 exit:Int
deriving DecidableEq
structure HSt where
 tries:Nat
 long:Bool
 out:List Way
def came (h:HSt):HSt:=⟨h.tries+1,h.long || decide (400<h.tries+1),h.out⟩
def turns (b s:Int) (st:List Stp) (h:HSt):Bool:=(came h).long || (decide (s=b) || within st s)
def lasts (p:Plan) (s:Int) (x:Stp):Bool:=decide (0<=signal p s x.t) || !(next p s x.t).2.2
def gone (p:Plan) (go:Int->Int->List Stp->HSt->HSt) (s:Int) (st:List Stp) (h:HSt) (x:Stp):HSt :=
 if lasts p s x then⟨h.tries,h.long,h.out++[⟨st++[x],signal p s x.t⟩]⟩ else go (next p s x.t).1 (next p s x.t).2.1 (st++[x]) h
def enter (p:Plan) (b:Int):Nat->Int->Int->List Stp->HSt->HSt
 | 0,s,_,st,h=>if turns b s st h then came h else⟨h.tries+1,true,h.out⟩
 | k+1,s,f,st,h=>if turns b s st h then came h else(outs p s f).foldl (gone p (enter p b k) s st) (came h)
def hunt0:HSt:=⟨0,false,[]⟩
def hunt (p:Plan) (g:Sig):HSt:=if (next p g.sec g.en).2.2 then enter p g.sec 16 (next p g.sec g.en).1 (next p g.sec g.en).2.1 [] hunt0 else hunt0
def sigAt (p:Plan) (i:Int):Option Sig:=if i<0 then none else p.sigs[i.toNat]?
def ofSig (p:Plan) (g:Sig):List Way × Int:=if (hunt p g).long then([],10) else((hunt p g).out,0)
def of (p:Plan) (i:Int):List Way × Int :=
 match sigAt p i with
 | none=>([],4)
 | some g=>ofSig p g
theorem came_out (h:HSt):(came h).out=h.out:=rfl
theorem came_tries (h:HSt):(came h).tries=h.tries+1:=rfl
theorem sigAt_ways (p:Plan) (i:Int):(i<0/\sigAt p i=none)∨∃ k:Nat,i=k/\((p.sigs.length<=k/\sigAt p (k:Int)=none)∨∃ x,p.sigs[k]?=some x/\sigAt p (k:Int)=some x):=by
 by_cases h:i<0
 ·exact .inl ⟨h,by unfold sigAt;rw[ArZ h]⟩
 refine .inr ⟨i.toNat,by omega,?_⟩
 by_cases hk:p.sigs.length<=i.toNat
 ·exact .inl ⟨hk,by unfold sigAt;rw[ArY (by omega),AsP,List.getElem?_eq_none hk]⟩
 exact .inr ⟨_,ArN (by omega),by unfold sigAt;rw[ArY (by omega),AsP,ArN (by omega)]⟩
theorem kY (p:Plan) (go:Int->Int->List Stp->HSt->HSt) (s:Int) (st:List Stp) (R:HSt->HSt->Prop) (hr:∀ h,R h h) (ht:∀ a b c,R a b->R b c->R a c)
 (hs:∀ h x,R h (gone p go s st h x)):∀ (l:List Stp) (h:HSt),R h (l.foldl (gone p go s st) h)
 | [],h=>hr h
 | x :: l,h=>ht _ _ _ (hs h x) (kY p go s st R hr ht hs l _)
def Grows (a b:HSt):Prop:=a.tries<=b.tries/\(a.long=true->b.long=true)/\∃ N,b.out=a.out++N
theorem Grows.refl (a:HSt):Grows a a:=⟨ArR _,id,[],(AsM _).symm⟩
theorem Grows.trans {a b c:HSt} (h:Grows a b) (h':Grows b c):Grows a c:=by
 obtain⟨t1,l1,N1,o1⟩:=h
 obtain⟨t2,l2,N2,o2⟩:=h'
 exact⟨ArS t1 t2,λx=>l2 (l1 x),N1++N2,by rw[o2,o1,List.append_assoc]⟩
theorem Grows.came (h:HSt):Grows h (came h):=⟨Nat.le_succ _,λx=>by unfold Cr.came;simp[x],[],(AsM _).symm⟩
theorem Grows.gone {p:Plan} {go:Int->Int->List Stp->HSt->HSt} (hg:∀ s f st h,Grows h (go s f st h)) (s:Int) (st:List Stp) (h:HSt) (x:Stp):Grows h (gone p go s st h x):=by
 unfold Cr.gone
 split
 ·exact⟨ArR _,id,_,rfl⟩
 exact hg _ _ _ _
theorem lQ (p:Plan) (b:Int):∀ (k:Nat) (s f:Int) (st:List Stp) (h:HSt),Grows h (enter p b k s f st h)
 | 0,s,f,st,h=>by
   unfold enter
   split
   ·exact Grows.came h
   exact⟨Nat.le_succ _,λ_=>rfl,[],(AsM _).symm⟩
 | k+1,s,f,st,h=>by
   unfold enter
   split
   ·exact Grows.came h
   exact(Grows.came h).trans (kY p _ s st Grows Grows.refl (λ_ _ _=>Grows.trans) (λh x=>Grows.gone (lQ p b k) s st h x) _ _)
theorem fold_grows (p:Plan) (b:Int) (k:Nat) (s:Int) (st:List Stp) (l:List Stp) (h:HSt):Grows h (l.foldl (gone p (enter p b k) s st) h) :=
 kY p _ s st Grows Grows.refl (λ_ _ _=>Grows.trans) (λh x=>Grows.gone (lQ p b k) s st h x) l h
theorem fold_le (p:Plan) (go:Int->Int->List Stp->HSt->HSt) (s:Int) (st:List Stp) (B C:Nat) (hC:1<=C)
 (hs:∀ s f st h,(go s f st h).tries<=h.tries+B/\(go s f st h).out.length<=h.out.length+C):∀ (l:List Stp) (h:HSt),(l.foldl (gone p go s st) h).tries<=h.tries+l.length*B/\(l.foldl (gone p go s st) h).out.length<=h.out.length+l.length*C
 | [],h=>⟨Nat.le_add_right _ _,Nat.le_add_right _ _⟩
 | x :: l,h=>by
   obtain⟨h1,h2⟩:=fold_le p go s st B C hC hs l (gone p go s st h x)
   have h3:(gone p go s st h x).tries<=h.tries+B/\(gone p go s st h x).out.length<=h.out.length+C:=by
    unfold gone
    split
    ·exact⟨Nat.le_add_right _ _,by simp only[ArV,List.length_singleton];omega⟩
    exact hs _ _ _ _
   rw[List.foldl_cons,AsJ,Nat.succ_mul,Nat.succ_mul]
   omega
theorem enter_le (p:Plan) (b:Int):∀ (k:Nat) (s f:Int) (st:List Stp) (h:HSt),(enter p b k s f st h).tries<=h.tries+(2 ^ (k+1)-1)/\(enter p b k s f st h).out.length<=h.out.length+2 ^ k
 | 0,s,f,st,h=>by
   unfold enter
   split
   ·exact⟨by rw[came_tries];omega,by rw[came_out];omega⟩
   exact⟨by simp only;omega,by simp only;omega⟩
 | k+1,s,f,st,h=>by
   have hp:1<=2 ^ k:=Nat.one_le_two_pow
   have e1:2 ^ (k+1)=2*2 ^ k:=by rw[Nat.pow_succ,Nat.mul_comm]
   have e2:2 ^ (k+1+1)=2*2 ^ (k+1):=by rw[Nat.pow_succ,Nat.mul_comm]
   unfold enter
   split
   ·exact⟨by rw[came_tries];omega,by rw[came_out];omega⟩
   have hl:=outs_len p s f
   obtain⟨h1,h2⟩:=fold_le p (enter p b k) s st (2 ^ (k+1)-1) (2 ^ k) hp (λs f st h=>enter_le p b k s f st h) (outs p s f) (came h)
   rw[came_tries] at h1
   rw[came_out] at h2
   have q1:(outs p s f).length*(2 ^ (k+1)-1)<=2*(2 ^ (k+1)-1):=Nat.mul_le_mul_right _ hl
   have q2:(outs p s f).length*2 ^ k<=2*2 ^ k:=Nat.mul_le_mul_right _ hl
   omega
def Chain (p:Plan) (b:Int):Int->Int->List Stp->List Stp->Int->Prop
 | _,_,_,[],_=>False
 | s,f,st,x :: t,e=>(s≠b/\within st s=false/\x∈outs p s f)/\((lasts p s x=true/\t=[]/\e=signal p s x.t)∨(lasts p s x=false/\Chain p b (next p s x.t).1 (next p s x.t).2.1 (st++[x]) t e))
def Part (a b:Way):Prop:=∃ l x y ta tb,a.steps=l++x :: ta/\b.steps=l++y :: tb/\x.s=y.s/\x.f=0/\y.f=0/\x.t=1/\y.t=2
def Parts (x y:Stp):Prop:=x.s=y.s/\x.f=0/\y.f=0/\x.t=1/\y.t=2
theorem AaI (p:Plan) (s f:Int):(outs p s f).Pairwise Parts:=by
 unfold outs
 split
 ·exact .nil
 split
 ·split
  ·exact List.pairwise_pair.2 ⟨rfl,rfl,rfl,rfl,rfl⟩
  split
  ·exact List.pairwise_singleton _ _
  exact .nil
 split
 ·exact List.pairwise_singleton _ _
 exact .nil
theorem outs_sec {p:Plan} {s f:Int} {x:Stp} (h:x∈outs p s f):x.s=s:=by
 unfold outs at h
 split at h
 ·cases h
 split at h
 ·split at h
  ·simp only[AsN,List.not_mem_nil,or_false] at h
   rcases h with rfl|rfl <;> rfl
  split at h
  ·rw[AsS] at h;rw[h]
  cases h
 split at h
 ·rw[AsS] at h;rw[h]
 cases h
def News (Q:Stp->List Stp->Int->Prop) (st:List Stp) (l:List Stp) (N:List Way):Prop :=
 (∀ w∈N,∃ x∈l,∃ t,w.steps=st++x :: t/\Q x t w.exit)/\N.Pairwise Part
theorem qU (p:Plan) (go:Int->Int->List Stp->HSt->HSt) (s:Int) (st:List Stp) (Q:Stp->List Stp->Int->Prop) :
 ∀ (l:List Stp),l.Pairwise Parts->(∀ x∈l,∀ h,∃ N,(gone p go s st h x).out=h.out++N/\News Q st [x] N)->∀ h,∃ N,(l.foldl (gone p go s st) h).out=h.out++N/\News Q st l N
 | [],_,_,h=>⟨[],(AsM _).symm,λ_ hw=>(by cases hw),.nil⟩
 | x :: l,hp,hx,h=>by
   obtain⟨N1,o1,n1,m1⟩:=hx x (List.mem_cons_self ..) h
   obtain⟨hxl,hl⟩:=List.pairwise_cons.1 hp
   obtain⟨N2,o2,n2,m2⟩:=qU p go s st Q l hl (λy hy=>hx y (List.mem_cons_of_mem _ hy)) (gone p go s st h x)
   refine⟨N1++N2,by rw[List.foldl_cons,o2,o1,List.append_assoc],λw hw=>?_,List.pairwise_append.2 ⟨m1,m2,λa ha b hb=>?_⟩⟩
   ·rcases ArW.1 hw with hw|hw
    ·obtain⟨y,hy,t,h1,h2⟩:=n1 w hw
     rw[AsS] at hy
     exact⟨y,hy ▸ List.mem_cons_self ..,t,h1,h2⟩
    obtain⟨y,hy,t,h1,h2⟩:=n2 w hw
    exact⟨y,List.mem_cons_of_mem _ hy,t,h1,h2⟩
   obtain⟨y,hy,t,h1,-⟩:=n1 a ha
   obtain⟨z,hz,u,h2,-⟩:=n2 b hb
   rw[AsS] at hy
   subst hy
   exact⟨st,y,z,t,u,h1,h2,hxl z hz⟩
def Goes (p:Plan) (b:Int) (k:Nat) (s f:Int) (st:List Stp) (x:Stp) (t:List Stp) (e:Int):Prop:=t.length<k/\Chain p b s f st (x :: t) e
theorem turns_false {b s:Int} {st:List Stp} {h:HSt} (ht:¬ turns b s st h=true):(came h).long=false/\s≠b/\within st s=false:=by
 unfold turns at ht
 cases h1:(came h).long <;> cases h2:within st s <;> by_cases h3:s=b <;> simp[h1,h2,h3] at ht
 exact⟨rfl,h3,rfl⟩
theorem oB (p:Plan) (b:Int):∀ (k:Nat) (s f:Int) (st:List Stp) (h:HSt),∃ N,(enter p b k s f st h).out=h.out++N/\News (Goes p b k s f st) st (outs p s f) N
 | 0,s,f,st,h=>by
   unfold enter
   split
   ·exact⟨[],(AsM _).symm,λ_ hw=>(by cases hw),.nil⟩
   exact⟨[],(AsM _).symm,λ_ hw=>(by cases hw),.nil⟩
 | k + 1,s,f,st,h=>by
   unfold enter
   split
   ·exact⟨[],(AsM _).symm,λ_ hw=>(by cases hw),.nil⟩
   rename_i ht
   obtain⟨-,hb,hw⟩:=turns_false ht
   refine qU p _ s st _ (outs p s f) (AaI p s f) (λx hx h=>?_) (came h)
   unfold gone
   cases hl:lasts p s x with
   | true =>
     rw[ArZ rfl]
     refine⟨_,rfl,λw hw'=>?_,List.pairwise_singleton _ _⟩
     rw[AsS] at hw'
     subst hw'
     exact⟨x,List.mem_cons_self ..,[],rfl,Nat.succ_pos _,⟨hb,hw,hx⟩,.inl ⟨hl,rfl,rfl⟩⟩
   | false =>
     rw[ArY (by decide)]
     obtain⟨N,o,n,m⟩:=oB p b k (next p s x.t).1 (next p s x.t).2.1 (st++[x]) h
     refine⟨N,o,λw hw'=>?_,m⟩
     obtain⟨y,-,t,h1,h2,h3⟩:=n w hw'
     exact⟨x,List.mem_cons_self ..,y :: t,by rw[h1,List.append_assoc];rfl,by rw[AsJ];omega,⟨hb,hw,hx⟩,.inr ⟨hl,h3⟩⟩
structure More (p q:Plan):Prop where
 outs:∀ s f,outs q s f=outs p s f
 next:∀ s e,next q s e=next p s e
 sig:∀ s e,signal q s e=signal p s e∨0<=signal q s e
theorem More.lasts {p q:Plan} (h:More p q) {s:Int} {x:Stp} (hl:lasts p s x=true):lasts q s x=true:=by
 unfold Cr.lasts at hl ⊢
 rw[h.next]
 rcases h.sig s x.t with h1|h1
 ·rw[h1];exact hl
 rw[decide_eq_true h1,Bool.true_or]
end Go.Proofs.YtjofpclmbjpgjaaGreat.Cr
