/-
 Texts of this claim, merged: PlWork, PlRank, PlRankB, PlDr, PlList, WkSpec, CrSpec, CrFacts, CrWays, LpSpec, LpFacts, NrSpec, NrMore.
-/
import Derived.Test.YtncphjodaklleaaGreatMg01
namespace Go.Proofs.YtncphjodaklleaaGreat.Pl
open Go It
def secG (g:Tp→En) (x:Itm):Sec:=⟨x.name,isPt x,x.n,g (tip x 0),g (tip x 1),if isPt x then g (tip x 2) else stop⟩
def upd (g:Tp→En) (t:Tp) (a:En):Tp→En:=fun v=>if v=t then a else g v
def Sec.put (s:Sec) (e:Nat) (a:En):Sec:=if e=0 then { s with e0:=a } else if e=1 then { s with e1:=a } else { s with e2:=a }
def Sec.setTo (e:Nat) (v:Int) (s:Sec):Sec:=s.put e { s.get e with goes:=v }
def Sec.setAt (e:Nat) (v:Int) (s:Sec):Sec:=s.put e { s.get e with at_:=v }
def Sec.setSig (e:Nat) (v:Int) (s:Sec):Sec:=s.put e { s.get e with sig:=v }
theorem get_secG (g:Tp→En) {x:Itm} {e:Nat} (he:e<nEnds (isPt x)):(secG g x).get e=g (tip x e):=by
 unfold Sec.get
 by_cases h0:e=0
 ·rw[if_pos h0,h0];rfl
 ·rw [if_neg h0]
  by_cases h1:e=1
  ·rw[if_pos h1,h1];rfl
  ·rw [if_neg h1]
   have hp:isPt x=true:=by
    cases hp:isPt x with
    | true=>rfl
    | false=>rw[hp] at he;simp [nEnds] at he;omega
   have h2:e=2:=by rw[hp] at he;simp [nEnds] at he;omega
   rw [h2]
   show (if isPt x=true then g (tip x 2) else stop)=_
   rw [if_pos hp]
theorem tip_ne {x:Itm} {e f:Nat} (he:e<nEnds (isPt x)) (hf:f<nEnds (isPt x)) (h:e≠f):tip x e≠tip x f:=fun hc=>h (letter_inj he hf (congrArg Tp.c hc))
theorem secG_upd (g:Tp→En) (a:En) {x:Itm} {e:Nat} (he:e<nEnds (isPt x)):secG (upd g (tip x e) a) x=(secG g x).put e a:=by
 have n0:0<nEnds (isPt x):=by unfold nEnds;split <;> omega
 have n1:1<nEnds (isPt x):=by unfold nEnds;split <;> omega
 unfold Sec.put
 by_cases h0:e=0
 ·subst h0
  rw [if_pos rfl]
  unfold secG upd
  rw [if_pos rfl,if_neg (tip_ne n1 n0 (by omega))]
  by_cases hp:isPt x=true
  ·rw[if_pos hp,if_pos hp,if_neg (tip_ne (by rw[hp];decide) n0 (by omega))]
  ·rw[if_neg hp,if_neg hp]
 ·rw [if_neg h0]
  by_cases h1:e=1
  ·subst h1
   rw [if_pos rfl]
   unfold secG upd
   rw [if_pos rfl,if_neg (tip_ne n0 n1 (by omega))]
   by_cases hp:isPt x=true
   ·rw[if_pos hp,if_pos hp,if_neg (tip_ne (by rw[hp];decide) n1 (by omega))]
   ·rw[if_neg hp,if_neg hp]
  ·rw [if_neg h1]
   have hp:isPt x=true:=by
    cases hp:isPt x with
    | true=>rfl
    | false=>rw[hp] at he;simp [nEnds] at he;omega
   have h2:e=2:=by rw[hp] at he;simp [nEnds] at he;omega
   subst h2
   unfold secG upd
   rw [if_neg (tip_ne n0 he (by omega)),if_neg (tip_ne n1 he (by omega)),if_pos hp,if_pos hp,if_pos rfl]
theorem secG_other (g:Tp→En) (a:En) {x y:Itm} {e:Nat} (h:x.name≠y.name):secG (upd g (tip y e) a) x=secG g x:=by
 have n:∀ f,tip x f≠tip y e:=fun f hc=>h (congrArg Tp.n hc)
 unfold secG upd
 rw [if_neg (n 0),if_neg (n 1),if_neg (n 2)]
theorem modify_at {α:Type} (L:List α) (i k:Nat) (f:α→α):(L.modify i f)[k]? = if i=k then (L[k]?).map f else L[k]?:=by
 rw [List.getElem?_modify]
 by_cases h:i=k
 ·subst h
  cases L[i]? <;> simp
 ·cases L[k]? <;> simp [h]
theorem map_upd {S:List Itm} (hn:(S.map (·.name)).Nodup) (g:Tp→En) (a:En) {i:Nat} {y:Itm} (hy:S[i]? = some y) {e:Nat} (he:e<nEnds (isPt y)):S.map (secG (upd g (tip y e) a))=(S.map (secG g)).modify i (fun s=>s.put e a):=by
 apply List.ext_getElem?
 intro k
 rw [modify_at,List.getElem?_map,List.getElem?_map]
 cases hk:S[k]? with
 | none=>split <;> rfl
 | some x =>
   simp only [Option.map_some]
   by_cases hik:i=k
   ·subst hik
    rw [hk] at hy
    cases hy
    rw [if_pos rfl,secG_upd g a he]
   ·rw [if_neg hik]
    have:x.name≠y.name:=fun e=>by
     have hi:=List.getElem?_map (f:=Itm.name) (l:=S) (i:=i)
     have hk2:=List.getElem?_map (f:=Itm.name) (l:=S) (i:=k)
     rw [hy] at hi
     rw [hk] at hk2
     simp only [Option.map_some] at hi hk2
     rw [e] at hk2
     obtain ⟨h1,h1'⟩:=List.getElem?_eq_some_iff.1 hi
     obtain ⟨h2,h2'⟩:=List.getElem?_eq_some_iff.1 hk2
     have hp:=List.nodup_iff_pairwise_ne.1 hn
     rcases Nat.lt_or_gt_of_ne hik with h | h
     ·exact List.pairwise_iff_getElem.1 hp i k h1 h2 h (h1'.trans h2'.symm)
     ·exact List.pairwise_iff_getElem.1 hp k i h2 h1 h (h2'.trans h1'.symm)
    rw [secG_other g a this]
theorem pos_at:∀ {N:List Nm} (_:N.Nodup) (i:Nat) (nm:Nm),N[i]? = some nm→pos N nm=i
 | [],_,i,nm,hi=>by simp at hi
 | a :: N,h,0,nm,hi=>by
   obtain rfl:a=nm:=by simpa using hi
   simp [pos,List.findIdx_cons]
 | a :: N,h,i+1,nm,hi=>by
   have h':=List.nodup_cons.1 h
   have hi':N[i]? = some nm:=by simpa using hi
   have ih:=pos_at h'.2 i nm hi'
   have hne:¬ a=nm:=fun e=>h'.1 (e ▸ List.mem_of_getElem? hi')
   unfold pos at ih ⊢
   rw [List.findIdx_cons]
   simp [hne]
   omega
theorem pos_append {N R:List Nm} {nm:Nm} (h:nm∈N):pos (N++R) nm=pos N nm:=by
 unfold pos
 rw [List.findIdx_append]
 have:N.findIdx (fun a=>decide (a=nm))<N.length:=List.findIdx_lt_length.2 ⟨nm,h,by simp⟩
 rw [if_pos this]
abbrev gW (M:List Itm):Tp→En:=enW (pos (nmS M)) (pos (nmG M)) M
def wS (M:List Itm):List Sec:=(secs M).map (secG (gW M))
def wG (M:List Itm):List Sig:=(sigs M).map (sigW (pos (nmS M)) M)
theorem wS_len (M:List Itm):(wS M).length=(secs M).length:=by simp [wS]
theorem wG_len (M:List Itm):(wG M).length=(sigs M).length:=by simp [wG]
theorem wS_at {M:List Itm} {i:Nat} {s:Sec} (h:(wS M)[i]? = some s):∃ x,(secs M)[i]? = some x∧s=secG (gW M) x:=by
 rw [wS,List.getElem?_map,Option.map_eq_some_iff] at h
 obtain ⟨x,hx,rfl⟩:=h
 exact ⟨x,hx,rfl⟩
theorem wS_of {M:List Itm} {i:Nat} {x:Itm} (h:(secs M)[i]? = some x):(wS M)[i]? = some (secG (gW M) x):=by rw[wS,List.getElem?_map,h];rfl
theorem nmS_at {M:List Itm} {i:Nat} {x:Itm} (h:(secs M)[i]? = some x):(nmS M)[i]? = some x.name:=by rw[nmS,List.getElem?_map,h];rfl
theorem pos_sec {M:List Itm} (hn:(nmS M).Nodup) {i:Nat} {x:Itm} (h:(secs M)[i]? = some x):pos (nmS M) x.name=i:=pos_at hn i _ (nmS_at h)
theorem find_wS {M:List Itm} (nm:Nm):(nm ∉ nmS M∧find (wS M) nm = -1)∨∃ (i:Nat) (x:Itm),find (wS M) nm=i∧(secs M)[i]? = some x∧x.name=nm:=by
 rcases find_cases (wS M) nm with ⟨h1,h2⟩ | ⟨i,s,h1,h2,h3⟩
 ·refine .inl ⟨fun h=>?_,h1⟩
  obtain ⟨x,hx,e⟩:=mem_nmS.1 h
  exact h2 _ (List.mem_map.2 ⟨x,hx,rfl⟩) e
 ·obtain ⟨x,hx,rfl⟩:=wS_at h2
  exact .inr ⟨i,x,h1,hx,h3⟩
theorem partner_snoc (M:List Itm) (x:Itm) (t:Tp):partner (M++[x]) t=(partner M t).or (link t x):=by
 unfold partner
 rw [List.findSome?_append]
 simp only [List.findSome?_cons,List.findSome?_nil]
 cases link t x <;> rfl
theorem ments_nm {M:List Itm} (hM:Ok M) {t:Tp} (h:t∈ments M):t.n∈nmS M:=by
 obtain ⟨y,hy,e,_,rfl⟩:=ments_told hM h
 exact mem_nmS.2 ⟨y,hy,rfl⟩
theorem sig_nm {M:List Itm} (hM:Ok M) {x:Itm} (h:x∈sigs M):x.e0.n∈nmS M:=by
 have h9:=(sig_facts (mem_sigs.1 h).2).2.2.2.2
 obtain ⟨y,hy,e,_,he⟩:=told_all hM (mem_sigs.1 h).1 (t:=x.e0) (by unfold tips;rw[if_neg (by omega),if_neg (by omega),if_pos h9];simp)
 exact mem_nmS.2 ⟨y,hy,by rw[he];rfl⟩
theorem secs_same {M:List Itm} {x:Itm} (h:isS x=false):secs (M++[x])=secs M:=by rw[secs_snoc,h];simp
theorem sigs_same {M:List Itm} {x:Itm} (h:isG x=false):sigs (M++[x])=sigs M:=by rw[sigs_snoc,h];simp
theorem ptOf_same {M:List Itm} {x:Itm} (h:isS x=false):ptOf (M++[x])=ptOf M:=by funext nm;unfold ptOf;rw[secs_same h]
theorem sigAt_same {M:List Itm} {x:Itm} (h:isG x=false):sigAt (M++[x])=sigAt M:=by funext t;unfold sigAt;rw[sigs_same h]
theorem ment_none {x:Itm} (h7:x.k≠7) (h8:x.k≠8) (t:Tp):link t x=none:=by rw[link_none,ment,if_neg h7,if_neg h8];simp
theorem num_snoc {M:List Itm} {x:Itm} (k:Int) (h:∀ y∈M,y.k≠x.k):num (M++[x]) k=if k=x.k then x.n else num M k:=by
 unfold num
 rw [List.find?_append]
 by_cases hk:k=x.k
 ·subst hk
  rw [if_pos rfl,List.find?_eq_none.2 fun y hy=>by simpa using h y hy]
  simp
 ·rw [if_neg hk]
  have:¬ x.k=k:=fun e=>hk e.symm
  simp [this]
theorem num_other {M:List Itm} {x:Itm} {k:Int} (h:x.k≠k):num (M++[x]) k=num M k:=by
 unfold num
 rw [List.find?_append]
 simp [h]
theorem w_num {M:List Itm} {x:Itm} (hx:isNum x.k=true):wS (M++[x])=wS M∧wG (M++[x])=wG M:=by
 obtain ⟨h1,h2,h7,h8,_⟩:=num_facts hx
 have ep:partner (M++[x])=partner M:=by funext t;rw[partner_snoc,ment_none h7 h8];simp
 have e1:gW (M++[x])=gW M:=by
  funext t
  simp only [gW,enW,ep,ptOf_same h1,sigAt_same h2,nmS,nmG,secs_same h1,sigs_same h2]
 constructor
 ·rw[wS,e1,secs_same h1];rfl
 ·rw [wG,sigs_same h2]
  unfold wG
  congr 1
  funext y
  simp only [sigW,ptOf_same h1,nmS,secs_same h1]
def openE:En:=⟨-2,0,-1⟩
theorem w_sec {M:List Itm} {x:Itm} (hM:Ok M) (hx:isS x=true) (hn:x.name ∉ nmS M):wS (M++[x])=wS M++[⟨x.name,isPt x,x.n,openE,openE,if isPt x then openE else stop⟩]∧wG (M++[x])=wG M:=by
 obtain ⟨_,h2,h7,h8,_⟩:=sec_facts hx
 have es:secs (M++[x])=secs M++[x]:=by rw[secs_snoc,if_pos hx]
 have en:nmS (M++[x])=nmS M++[x.name]:=by rw[nmS,es,List.map_append];rfl
 have ep:partner (M++[x])=partner M:=by funext t;rw[partner_snoc,ment_none h7 h8];simp
 have ept:∀ nm,nm∈nmS M→ptOf (M++[x]) nm=ptOf M nm:=fun nm h=>by
  obtain ⟨y,hy,rfl⟩:=mem_nmS.1 h
  unfold ptOf
  rw [es,find_uniq (f:=Itm.name) hM.names hy,List.find?_append,find_uniq (f:=Itm.name) hM.names hy]
  rfl
 have e1:∀ t,gW (M++[x]) t=gW M t:=fun t=>by
  simp only [gW,enW,ep,sigAt_same h2,nmG,sigs_same h2]
  cases hp:partner M t with
  | none=>rfl
  | some v =>
    cases v with
    | none=>rfl
    | some u =>
      have hu:=ments_nm hM (partner_ments (t:=u) (by rw[(partner_sym hM.ments hp).1];simp))
      simp only [en,pos_append hu,ept _ hu]
 have e0:∀ e,gW M (tip x e)=openE:=fun e=>by
  have hp:partner M (tip x e)=none:=partner_none.2 fun h=>hn (ments_nm hM h)
  have hs:sigAt M (tip x e)=none:=by
   cases h:sigAt M (tip x e) with
   | none=>rfl
   | some g =>
     obtain ⟨y,hy,h3,_⟩:=sigAt_some h
     exact absurd (sig_nm hM hy) (by rw[h3];exact hn)
  simp only [gW,enW,hp,hs];rfl
 constructor
 ·rw [wS,es,List.map_append,show gW (M++[x])=gW M from funext e1]
  unfold wS
  congr 1
  show [secG (gW M) x]=_
  unfold secG
  rw [e0,e0,e0]
 ·rw [wG,sigs_same h2]
  unfold wG
  refine List.map_congr_left fun y hy=>?_
  have:=sig_nm hM hy
  simp only [sigW,en,pos_append this,ept _ this]
theorem w_stop {M:List Itm} {x:Itm} (hM:Ok M) (h8:x.k=8) (hm:x.e0 ∉ ments M) {i:Nat} {y:Itm} (hy:(secs M)[i]? = some y) {e:Nat} (he:e<nEnds (isPt y)) (ht:x.e0=tip y e) :
 wS (M++[x])=(wS M).modify i (Sec.setTo e (-1))∧wG (M++[x])=wG M:=by
 obtain ⟨h0,h1,h2⟩:=end_facts (x:=x) (.inr h8)
 have eg:gW (M++[x])=upd (gW M) (tip y e) ⟨-1,0,(gW M (tip y e)).sig⟩:=by
  funext v
  unfold upd
  simp only [gW,enW,partner_snoc,ptOf_same h1,sigAt_same h2,nmS,nmG,secs_same h1,sigs_same h2]
  by_cases hv:v=tip y e
  ·subst hv
   rw [if_pos rfl]
   rw [ht] at hm
   rw [partner_none.2 hm]
   have:link (tip y e) x=some none:=by unfold link;rw[if_neg (by omega),if_pos ⟨h8,ht⟩]
   rw [this];rfl
  ·rw [if_neg hv]
   have:link v x=none:=by unfold link;rw[if_neg (by omega),if_neg (fun h=>hv (by rw[← h.2,ht]))]
   rw [this]
   simp
 constructor
 ·rw [wS,eg,secs_same h1,map_upd hM.names _ _ hy he]
  apply List.ext_getElem?
  intro k
  rw [modify_at,modify_at]
  by_cases hik:i=k
  ·subst hik
   rw [if_pos rfl,if_pos rfl,← wS,wS_of hy]
   show some _=some _
   congr 1
   unfold Sec.setTo
   rw [get_secG _ he]
   have hp:partner M (tip y e)=none:=partner_none.2 (by rw[← ht];exact hm)
   simp only [gW,enW,hp]
  ·rw[if_neg hik,if_neg hik];rfl
 ·rw [wG,sigs_same h2]
  unfold wG
  congr 1
  funext z
  simp only [sigW,ptOf_same h1,nmS,secs_same h1]
theorem w_join {M:List Itm} {x:Itm} (hM:Ok M) (h7:x.k=7) (hm:x.e0 ∉ ments M) (hm1:x.e1 ∉ ments M) (hne:x.e0≠x.e1) {i j:Nat} {y z:Itm} (hy:(secs M)[i]? = some y) (hz:(secs M)[j]? = some z) {e f:Nat} (he:e<nEnds (isPt y)) (hf:f<nEnds (isPt z)) (ht:x.e0=tip y e) (hu:x.e1=tip z f) :
 wS (M++[x])=((wS M).modify i (fun s=>s.put e ⟨j,f,(gW M (tip y e)).sig⟩)).modify j (fun s=>s.put f ⟨i,e,(gW M (tip z f)).sig⟩)∧wG (M++[x])=wG M:=by
 obtain ⟨h0,h1,h2⟩:=end_facts (x:=x) (.inl h7)
 have hys:y∈secs M:=List.mem_of_getElem? hy
 have hzs:z∈secs M:=List.mem_of_getElem? hz
 have eg:gW (M++[x])=upd (upd (gW M) (tip y e) ⟨j,f,(gW M (tip y e)).sig⟩) (tip z f) ⟨i,e,(gW M (tip z f)).sig⟩:=by
  funext v
  unfold upd
  simp only [gW,enW,partner_snoc,ptOf_same h1,sigAt_same h2,nmS,nmG,secs_same h1,sigs_same h2]
  by_cases hv:v=tip z f
  ·subst hv
   rw [if_pos rfl]
   rw [hu] at hm1
   rw [partner_none.2 hm1]
   have:link (tip z f) x=some (some (tip y e)):=by unfold link;rw[if_pos h7,if_neg (by rw[← hu];exact hne),if_pos hu,ht]
   rw [this]
   have hpos:pos ((secs M).map (·.name)) (tip y e).n=i:=pos_sec hM.names hy
   simp only [Option.none_or,hpos,tip_at hM hys he,Option.getD_some]
  ·rw [if_neg hv]
   by_cases hv2:v=tip y e
   ·subst hv2
    rw [if_pos rfl]
    rw [ht] at hm
    rw [partner_none.2 hm]
    have:link (tip y e) x=some (some (tip z f)):=by unfold link;rw[if_pos h7,if_pos ht,hu]
    rw [this]
    have hpos:pos ((secs M).map (·.name)) (tip z f).n=j:=pos_sec hM.names hz
    simp only [Option.none_or,hpos,tip_at hM hzs hf,Option.getD_some]
   ·rw [if_neg hv2]
    have:link v x=none:=by unfold link;rw[if_pos h7,if_neg (fun h=>hv2 (by rw[← h,ht])),if_neg (fun h=>hv (by rw[← h,hu]))]
    rw [this]
    simp
 constructor
 ·rw[wS,eg,secs_same h1,map_upd hM.names _ _ hz hf,map_upd hM.names _ _ hy he];rfl
 ·rw [wG,sigs_same h2]
  unfold wG
  congr 1
  funext z
  simp only [sigW,ptOf_same h1,nmS,secs_same h1]
theorem w_sig {M:List Itm} {x:Itm} (hM:Ok M) (hg:isG x=true) (hn:x.name ∉ nmG M) (hs:x.e0 ∉ (sigs M).map (·.e0)) {i:Nat} {y:Itm} (hy:(secs M)[i]? = some y) {e:Nat} (he:e<nEnds (isPt y)) (ht:x.e0=tip y e) :
 wS (M++[x])=(wS M).modify i (Sec.setSig e (wG M).length)∧wG (M++[x])=wG M++[⟨x.name,i,e⟩]:=by
 obtain ⟨_,h1,h7,h8,_⟩:=sig_facts hg
 have eG:sigs (M++[x])=sigs M++[x]:=by rw[sigs_snoc,if_pos hg]
 have hys:y∈secs M:=List.mem_of_getElem? hy
 have enG:nmG (M++[x])=nmG M++[x.name]:=by rw[nmG,eG,List.map_append];rfl
 have ep:partner (M++[x])=partner M:=by funext t;rw[partner_snoc,ment_none h7 h8];simp
 have hlast:pos (nmG M++[x.name]) x.name=(wG M).length:=by
  have:(nmG M++[x.name]).Nodup:=nodup_snoc.2 ⟨hM.gnames,hn⟩
  rw [pos_at this (nmG M).length x.name (by simp),wG_len,nmG,List.length_map]
 have eg:gW (M++[x])=upd (gW M) (tip y e) { gW M (tip y e) with sig:=(wG M).length }:=by
  funext v
  unfold upd
  have hsv:sigAt (M++[x]) v=(sigAt M v).or (if x.e0=v then some x.name else none):=by
   unfold sigAt
   rw [eG,List.find?_append]
   by_cases hv:x.e0=v
   ·rw [if_pos hv]
    cases (sigs M).find? fun z=>decide (z.e0=v) <;> simp [hv]
   ·rw [if_neg hv]
    cases (sigs M).find? fun z=>decide (z.e0=v) <;> simp [hv]
  by_cases hv:v=tip y e
  ·subst hv
   rw [if_pos rfl]
   have hno:sigAt M (tip y e)=none:=by
    have:=sigAt_none.2 hs
    rw [ht] at this
    cases h:sigAt M (tip y e) with
    | none=>rfl
    | some g=>rw[h] at this;cases this
   simp only [gW,enW,ep,ptOf_same h1,nmS,secs_same h1,hsv,hno,if_pos ht,Option.none_or,enG,hlast]
  ·rw [if_neg hv]
   rw [if_neg (fun h=>hv (by rw[← h,ht])),Option.or_none] at hsv
   simp only [gW,enW,ep,ptOf_same h1,nmS,secs_same h1,hsv,enG]
   cases h:sigAt M v with
   | none=>rfl
   | some g =>
     obtain ⟨z,hz,_,rfl⟩:=sigAt_some h
     simp only [pos_append (show z.name∈nmG M from List.mem_map.2 ⟨z,hz,rfl⟩)]
 constructor
 ·rw [wS,eg,secs_same h1,map_upd hM.names _ _ hy he]
  apply List.ext_getElem?
  intro k
  rw [modify_at,modify_at]
  by_cases hik:i=k
  ·subst hik
   rw [if_pos rfl,if_pos rfl,← wS,wS_of hy]
   show some _=some _
   congr 1
   unfold Sec.setSig
   rw [get_secG _ he]
  ·rw[if_neg hik,if_neg hik];rfl
 ·have e1:∀ z,sigW (pos (nmS (M++[x]))) (M++[x]) z=sigW (pos (nmS M)) M z:=fun z=>by simp only [sigW,ptOf_same h1,nmS,secs_same h1]
  rw [wG,eG,List.map_append,show sigW (pos (nmS (M++[x]))) (M++[x])=sigW (pos (nmS M)) M from funext e1]
  unfold wG
  congr 1
  show [sigW (pos (nmS M)) M x]=_
  unfold sigW
  rw [ht,tip_at hM hys he,show (tip y e).n=y.name from rfl,pos_sec hM.names hy]
  rfl
def ranks (N:List Nm):List Int:=N.map (rank N)
def ren1 (R:List Int) (v:Int):Int:=if 0≤v then R.getD v.toNat 0 else v
def renEn (R Q:List Int) (e:En):En:=⟨ren1 R e.goes,e.at_,ren1 Q e.sig⟩
def renSec (R Q:List Int) (s:Sec):Sec:=⟨s.name,s.pt,s.len,renEn R Q s.e0,renEn R Q s.e1,renEn R Q s.e2⟩
def renSig (R:List Int) (g:Sig):Sig:=⟨g.name,ren1 R g.sec,g.en⟩
theorem ranks_len (N:List Nm):(ranks N).length=N.length:=by simp [ranks]
theorem ranks_at {N:List Nm} {i:Nat} {nm:Nm} (h:N[i]? = some nm):(ranks N)[i]? = some (rank N nm):=by rw[ranks,List.getElem?_map,h];rfl
theorem ren_pos {N:List Nm} {nm:Nm} (h:nm∈N):ren1 (ranks N) (pos N nm)=rank N nm:=by
 have hl:N.findIdx (fun a=>decide (a=nm))<N.length:=List.findIdx_lt_length.2 ⟨nm,h,by simp⟩
 have he:=List.findIdx_getElem (xs:=N) (p:=fun a=>decide (a=nm)) (w:=hl)
 have he':N[N.findIdx (fun a=>decide (a=nm))]=nm:=of_decide_eq_true he
 unfold ren1 pos
 rw [if_pos (by omega),List.getD_eq_getElem?_getD,Int.toNat_natCast,ranks_at (List.getElem?_eq_getElem hl),he']
 rfl
theorem ren_neg {R:List Int} {v:Int} (h:v<0):ren1 R v=v:=by unfold ren1;rw[if_neg (by omega)]
theorem partner_nm {M:List Itm} (hM:Ok M) {t u:Tp} (h:partner M t=some (some u)):u.n∈nmS M:=by
 have h2:=(partner_sym hM.ments h).1
 refine ments_nm hM (t:=u) (Classical.byContradiction fun hc=>?_)
 rw [partner_none.2 hc] at h2
 cases h2
theorem ren_en {M:List Itm} (hM:Ok M) (t:Tp):renEn (ranks (nmS M)) (ranks (nmG M)) (gW M t)=enW (rank (nmS M)) (rank (nmG M)) M t:=by
 unfold renEn gW enW
 congr 1
 ·rcases hp:partner M t with _ | _ | u
  ·exact ren_neg (show (-2:Int)<0 by decide)
  ·exact ren_neg (show (-1:Int)<0 by decide)
  ·exact ren_pos (partner_nm hM hp)
 ·rcases hs:sigAt M t with _ | g
  ·exact ren_neg (show (-1:Int)<0 by decide)
  ·obtain ⟨x,hx,-,rfl⟩:=sigAt_some hs
   exact ren_pos (List.mem_map.2 ⟨x,hx,rfl⟩)
theorem ren_stop (R Q:List Int):renEn R Q stop=stop:=by
 unfold renEn stop
 rw [ren_neg (by decide)]
 congr 1
theorem ren_sec {M:List Itm} (hM:Ok M) (x:Itm):renSec (ranks (nmS M)) (ranks (nmG M)) (secG (gW M) x)=secW (rank (nmS M)) (rank (nmG M)) M x:=by
 unfold renSec secG secW
 simp only
 rw [ren_en hM,ren_en hM]
 congr 1
 cases isPt x
 ·exact ren_stop _ _
 ·exact ren_en hM _
theorem ren_sig {M:List Itm} (hM:Ok M) {x:Itm} (hx:x∈sigs M):renSig (ranks (nmS M)) (sigW (pos (nmS M)) M x)=sigW (rank (nmS M)) M x:=by
 unfold renSig sigW
 congr 1
 exact ren_pos (sig_nm hM hx)
theorem fin_secs_len (M:List Itm):(fin M).secs.length=(wS M).length:=by simp [fin,wS,isort_len]
theorem fin_sigs_len (M:List Itm):(fin M).sigs.length=(wG M).length:=by simp [fin,wG,isort_len]
theorem isort_names {l:List Itm}:((isort Itm.name l).map (·.name)).Perm (l.map (·.name)):=(isort_perm Itm.name l).map _
theorem fin_sec_at {M:List Itm} (hM:Ok M) {i:Nat} {s:Sec} (h:(wS M)[i]? = some s) :
 (fin M).secs[(rank (nmS M) s.name).toNat]? = some (renSec (ranks (nmS M)) (ranks (nmG M)) s):=by
 obtain ⟨x,hx,rfl⟩:=wS_at h
 rw [ren_sec hM]
 have h1:=at_rank (isort_rise Itm.name (secs M) hM.names) ((isort_mem Itm.name).2 (List.mem_of_getElem? hx))
 rw [rank_perm isort_names] at h1
 show ((isort Itm.name (secs M)).map (secW (rank (nmS M)) (rank (nmG M)) M))[(rank (nmS M) x.name).toNat]? = _
 rw [List.getElem?_map]
 rw [show (isort Itm.name (secs M))[(rank (nmS M) x.name).toNat]? = some x from h1]
 rfl
theorem fin_sig_at {M:List Itm} (hM:Ok M) {i:Nat} {g:Sig} (h:(wG M)[i]? = some g) :
 (fin M).sigs[(rank (nmG M) g.name).toNat]? = some (renSig (ranks (nmS M)) g):=by
 rw [wG,List.getElem?_map,Option.map_eq_some_iff] at h
 obtain ⟨x,hx,rfl⟩:=h
 rw [ren_sig hM (List.mem_of_getElem? hx)]
 have h1:=at_rank (isort_rise Itm.name (sigs M) hM.gnames) ((isort_mem Itm.name).2 (List.mem_of_getElem? hx))
 rw [rank_perm isort_names] at h1
 show ((isort Itm.name (sigs M)).map (sigW (rank (nmS M)) M))[(rank (nmG M) x.name).toNat]? = _
 rw [List.getElem?_map]
 rw [show (isort Itm.name (sigs M))[(rank (nmG M) x.name).toNat]? = some x from h1]
 rfl
theorem rank_onto {l:List Itm} (hn:(l.map (·.name)).Nodup) {p:Nat} (hp:p<l.length):∃ i,i<l.length∧∀ nm,(l.map (·.name))[i]? = some nm→(rank (l.map (·.name)) nm).toNat=p:=by
 have hp':p<(isort Itm.name l).length:=by rw[isort_len];exact hp
 have hm:(isort Itm.name l)[p]∈l:=(isort_mem Itm.name).1 (List.getElem_mem hp')
 obtain ⟨i,hi,e⟩:=List.getElem_of_mem hm
 refine ⟨i,hi,fun nm h=>?_⟩
 rw [List.getElem?_map,List.getElem?_eq_getElem hi] at h
 obtain rfl:l[i].name=nm:=by simpa using h
 rw [← rank_perm isort_names,rank_at (rise_map (isort_rise Itm.name l hn)) p _ (by rw[List.getElem?_map,List.getElem?_eq_getElem hp',← e];rfl)]
 simp
theorem pos_lt {N:List Nm} {nm:Nm} (h:nm∈N):pos N nm<N.length:=by
 have hl:N.findIdx (fun a=>decide (a=nm))<N.length:=List.findIdx_lt_length.2 ⟨nm,h,by simp⟩
 unfold pos;omega
theorem gW_lt {M:List Itm} (hM:Ok M) (t:Tp):(gW M t).goes<(nmS M).length∧(gW M t).sig<(nmG M).length:=by
 unfold gW enW
 constructor
 ·rcases hp:partner M t with _ | _ | u
  ·show (-2:Int)<_;omega
  ·show (-1:Int)<_;omega
  ·exact pos_lt (partner_nm hM hp)
 ·rcases hs:sigAt M t with _ | g
  ·show (-1:Int)<_;omega
  ·obtain ⟨x,hx,-,rfl⟩:=sigAt_some hs
   exact pos_lt (List.mem_map.2 ⟨x,hx,rfl⟩)
theorem nmS_len (M:List Itm):(nmS M).length=(wS M).length:=by simp [nmS,wS]
theorem nmG_len (M:List Itm):(nmG M).length=(wG M).length:=by simp [nmG,wG]
theorem wS_ends {M:List Itm} (hM:Ok M) {i:Nat} {s:Sec} (h:(wS M)[i]? = some s) (e:Nat):(s.get e).goes<(wS M).length∧(s.get e).sig<(wG M).length:=by
 obtain ⟨x,-,rfl⟩:=wS_at h
 have g:=fun t=>gW_lt hM t
 rw [nmS_len,nmG_len] at g
 unfold Sec.get secG
 by_cases h0:e=0
 ·rw[if_pos h0];exact g _
 ·rw [if_neg h0]
  by_cases h1:e=1
  ·rw[if_pos h1];exact g _
  ·rw [if_neg h1]
   simp only
   by_cases hp:isPt x=true
   ·rw[if_pos hp];exact g _
   ·rw [if_neg hp]
    constructor
    ·show (-1:Int)<_;omega
    ·show (-1:Int)<_;omega
theorem wG_sec {M:List Itm} (hM:Ok M) {i:Nat} {g:Sig} (h:(wG M)[i]? = some g):0≤g.sec∧g.sec<(wS M).length:=by
 rw [wG,List.getElem?_map,Option.map_eq_some_iff] at h
 obtain ⟨x,hx,rfl⟩:=h
 rw [← nmS_len]
 exact ⟨by show 0≤pos _ _;unfold pos;omega,pos_lt (sig_nm hM (List.mem_of_getElem? hx))⟩
theorem ren1_at {N:List Nm} {t:Nat} (h:t<N.length):(ranks N)[t]? = some (ren1 (ranks N) t):=by
 unfold ren1
 rw [if_pos (by omega),Int.toNat_natCast,List.getD_eq_getElem?_getD,List.getElem?_eq_getElem (by rw[ranks_len];exact h)]
 rfl
theorem wS_name_mem {M:List Itm} {i:Nat} {s:Sec} (h:(wS M)[i]? = some s):s.name∈nmS M:=by
 obtain ⟨x,hx,rfl⟩:=wS_at h
 exact List.mem_map.2 ⟨x,List.mem_of_getElem? hx,rfl⟩
theorem wG_name_mem {M:List Itm} {i:Nat} {g:Sig} (h:(wG M)[i]? = some g):g.name∈nmG M:=by
 rw [wG,List.getElem?_map,Option.map_eq_some_iff] at h
 obtain ⟨x,hx,rfl⟩:=h
 exact List.mem_map.2 ⟨x,List.mem_of_getElem? hx,rfl⟩
theorem secs_whole {M:List Itm} (hM:Ok M) {X:List Sec} (hl:X.length=(wS M).length)
 (h:∀ (j:Nat) (s:Sec),(wS M)[j]? = some s→X[(rank (nmS M) s.name).toNat]? = some (renSec (ranks (nmS M)) (ranks (nmG M)) s)):X=(fin M).secs:=by
 apply List.ext_getElem?
 intro p
 by_cases hp:p<(secs M).length
 ·obtain ⟨i,hi,hr⟩:=rank_onto (l:=secs M) hM.names hp
  have hs:=wS_of (M:=M) (List.getElem?_eq_getElem hi)
  have e:=hr (secs M)[i].name (by rw[List.getElem?_map,List.getElem?_eq_getElem hi];rfl)
  have h1:=h i _ hs
  have h2:=fin_sec_at hM hs
  have e':(rank (nmS M) (secG (gW M) (secs M)[i]).name).toNat=p:=e
  rw [e'] at h1 h2
  rw [h1,h2]
 ·rw[List.getElem?_eq_none (by rw[hl,wS_len];omega),List.getElem?_eq_none (by rw[fin_secs_len,wS_len];omega)]
theorem sigs_whole {M:List Itm} (hM:Ok M) {X:List Sig} (hl:X.length=(wG M).length)
 (h:∀ (j:Nat) (g:Sig),(wG M)[j]? = some g→X[(rank (nmG M) g.name).toNat]? = some (renSig (ranks (nmS M)) g)):X=(fin M).sigs:=by
 apply List.ext_getElem?
 intro p
 by_cases hp:p<(sigs M).length
 ·obtain ⟨i,hi,hr⟩:=rank_onto (l:=sigs M) hM.gnames hp
  have hs:(wG M)[i]? = some (sigW (pos (nmS M)) M (sigs M)[i]):=by rw[wG,List.getElem?_map,List.getElem?_eq_getElem hi];rfl
  have e:=hr (sigs M)[i].name (by rw[List.getElem?_map,List.getElem?_eq_getElem hi];rfl)
  have h1:=h i _ hs
  have h2:=fin_sig_at hM hs
  have e':(rank (nmG M) (sigW (pos (nmS M)) M (sigs M)[i]).name).toNat=p:=e
  rw [e'] at h1 h2
  rw [h1,h2]
 ·rw[List.getElem?_eq_none (by rw[hl,wG_len];omega),List.getElem?_eq_none (by rw[fin_sigs_len,wG_len];omega)]
theorem told_more {α:Type} {L:List α} {n:Nat} (key:α→Nat) (out:α→α) {X:List α} {i:Nat} {a:α} (hi:L[i]? = some a) (hlt:∀ b∈L,key b<n) (hX:X.length=n)
 (hinj:∀ (j:Nat) (b:α),j<i→L[j]? = some b→key b≠key a) (h:∀ (j:Nat) (b:α),j<i→L[j]? = some b→X[key b]? = some (out b)) :
 ∀ (j:Nat) (b:α),j<i+1→L[j]? = some b→(X.set (key a) (out a))[key b]? = some (out b):=fun j b hj hb=>by
 rcases Nat.lt_succ_iff_lt_or_eq.1 hj with h1 | rfl
 ·rw[List.getElem?_set_ne (Ne.symm (hinj j b h1 hb))];exact h j b h1 hb
 ·rw [hi] at hb
  cases hb
  rw [List.getElem?_set_self (by rw[hX];exact hlt a (List.mem_of_getElem? hi))]
theorem names_apart {α:Type} {L:List α} (f:α→Nm) (hn:(L.map f).Nodup) {i j:Nat} {a b:α} (hi:L[i]? = some a) (hj:L[j]? = some b) (h:j<i):rank (L.map f) (f b)≠rank (L.map f) (f a):=fun hc=>by
 have ha:f a∈L.map f:=List.mem_map.2 ⟨a,List.mem_of_getElem? hi,rfl⟩
 have hb:f b∈L.map f:=List.mem_map.2 ⟨b,List.mem_of_getElem? hj,rfl⟩
 have e:=rank_inj hb ha hc
 obtain ⟨h1,h1'⟩:=List.getElem?_eq_some_iff.1 hi
 obtain ⟨h2,h2'⟩:=List.getElem?_eq_some_iff.1 hj
 have hp:=List.nodup_iff_pairwise_ne.1 hn
 have:=List.pairwise_iff_getElem.1 hp j i (by simpa using h2) (by simpa using h1) h
 simp only [List.getElem_map] at this
 rw [h1',h2'] at this
 exact this e
def Upto (R Q:List Int) (e:Nat) (s t:Sec):Prop:=t.name=s.name∧t.pt=s.pt∧t.len=s.len∧(∀ f,f<3→f<e→t.get f=renEn R Q (s.get f))∧∀ f,f<3→e≤f→t.get f=s.get f
theorem Upto.zero (R Q:List Int) (s:Sec):Upto R Q 0 s s:=⟨rfl,rfl,rfl,fun f _ h=>absurd h (Nat.not_lt_zero f),fun _ _ _=>rfl⟩
theorem get_put {s:Sec} {e f:Nat} {a:En} (he:e<3) (hf:f<3):(s.put e a).get f=if f=e then a else s.get f:=by
 have h1:e=0∨e=1∨e=2:=by omega
 have h2:f=0∨f=1∨f=2:=by omega
 rcases h1 with rfl | rfl | rfl <;> rcases h2 with rfl | rfl | rfl <;> rfl
theorem put_name (s:Sec) (e:Nat) (a:En):(s.put e a).name=s.name∧(s.put e a).pt=s.pt∧(s.put e a).len=s.len:=by
 unfold Sec.put;split
 ·exact ⟨rfl,rfl,rfl⟩
 ·split <;> exact ⟨rfl,rfl,rfl⟩
theorem Upto.next {R Q:List Int} {e:Nat} {s t:Sec} (h:Upto R Q e s t) (he:e<3):Upto R Q (e+1) s (t.put e (renEn R Q (s.get e))):=by
 obtain ⟨h1,h2,h3,h4,h5⟩:=h
 obtain ⟨p1,p2,p3⟩:=put_name t e (renEn R Q (s.get e))
 refine ⟨p1.trans h1,p2.trans h2,p3.trans h3,fun f hf hlt=>?_,fun f hf hle=>?_⟩
 ·rw [get_put he hf]
  by_cases hfe:f=e
  ·rw[if_pos hfe,hfe]
  ·rw[if_neg hfe];exact h4 f hf (by omega)
 ·rw[get_put he hf,if_neg (by omega)];exact h5 f hf (by omega)
theorem Upto.done {R Q:List Int} {s t:Sec} (h:Upto R Q 3 s t):t=renSec R Q s:=by
 obtain ⟨h1,h2,h3,h4,-⟩:=h
 have e0:=h4 0 (by decide) (by decide)
 have e1:=h4 1 (by decide) (by decide)
 have e2:=h4 2 (by decide) (by decide)
 cases t
 cases s
 simp only [Sec.get] at e0 e1 e2
 simp only at h1 h2 h3
 subst h1 h2 h3
 unfold renSec
 simp_all
theorem put_ren {R Q:List Int} {e:Nat} {s t:Sec} (h:Upto R Q e s t) (he:e<3):(t.put e (renEn R Q (s.get e)))=(t.setTo e (ren1 R (t.get e).goes)).setSig e (ren1 Q (t.get e).sig):=by
 have hg:=h.2.2.2.2 e he (Nat.le_refl e)
 rw [← hg]
 unfold Sec.setSig Sec.setTo
 have h1:e=0∨e=1∨e=2:=by omega
 rcases h1 with rfl | rfl | rfl <;> rfl
theorem setTo_same {t:Sec} {e:Nat} {R:List Int} (he:e<3) (h:(t.get e).goes<0):t.setTo e (ren1 R (t.get e).goes)=t:=by
 rw [ren_neg h]
 have h1:e=0∨e=1∨e=2:=by omega
 rcases h1 with rfl | rfl | rfl <;> rfl
theorem setSig_same {t:Sec} {e:Nat} {Q:List Int} (he:e<3) (h:(t.get e).sig<0):t.setSig e (ren1 Q (t.get e).sig)=t:=by
 rw [ren_neg h]
 have h1:e=0∨e=1∨e=2:=by omega
 rcases h1 with rfl | rfl | rfl <;> rfl
theorem setTo_get_sig {t:Sec} {e:Nat} (v:Int) (he:e<3):((t.setTo e v).get e).sig=(t.get e).sig:=by
 have h1:e=0∨e=1∨e=2:=by omega
 rcases h1 with rfl | rfl | rfl <;> rfl
def clrE (e:En):En:=⟨e.goes,e.at_,-1⟩
def clr (s:Sec):Sec:=⟨s.name,s.pt,s.len,clrE s.e0,clrE s.e1,clrE s.e2⟩
def dS (M:List Itm):List Sec:=(wS M).map clr
structure Fit (p:Plan):Prop where
 ends:∀ (i:Nat) (s:Sec),p.secs[i]? = some s→∀ e,e<3→-1≤(s.get e).goes∧(s.get e).goes<p.secs.length∧(0≤(s.get e).goes→0≤(s.get e).at_∧(s.get e).at_≤2)
 plain:∀ (i:Nat) (s:Sec),p.secs[i]? = some s→s.pt=false→(s.get 2).goes = -1
 sigs:∀ (i:Nat) (g:Sig),p.sigs[i]? = some g→0≤g.sec∧g.sec<p.secs.length∧0≤g.en∧g.en≤2
 few:p.secs.length≤24
 gfew:p.sigs.length≤12
theorem fit_fin {L:List Itm} (hL:Ok L) (hS:Shut L):Fit (fin L) where
 ends i s hs e he:=by
  rcases end_cases hL hS hs he with h | ⟨_,-,-,-,-,-,h1,-,-⟩ | ⟨_,j,f,t,-,-,-,-,hj,hf,h1,h2,-⟩
  ·rw [h]
   refine ⟨by decide,?_,fun h0=>absurd h0 (by decide)⟩
   have:=(List.getElem?_eq_some_iff.1 hs).1
   show (-1:Int)<_
   omega
  ·refine ⟨by omega,?_,fun h0=>by omega⟩
   have:=(List.getElem?_eq_some_iff.1 hs).1
   omega
  ·have:=(List.getElem?_eq_some_iff.1 hj).1
   exact ⟨by omega,by omega,fun _=>⟨by omega,by omega⟩⟩
 plain i s hs hp:=by
  show s.e2.goes = -1
  rw [plain_end hL hs hp];rfl
 sigs i g hg:=by
  obtain ⟨j,f,t,hj,hf,h1,h2,-⟩:=sig_cases hL hg
  have:=(List.getElem?_eq_some_iff.1 hj).1
  exact ⟨by omega,by omega,by omega,by omega⟩
 few:=by rw[secs_len];exact hL.few
 gfew:=by rw[sigs_len];exact hL.gfew
def upTo (f:Nat × Nat→Option Itm) (i e:Nat):List Itm:=((List.range i).flatMap fun s=>(List.range 3).filterMap fun e=>f (s,e))++(List.range e).filterMap fun e=>f (i,e)
theorem flat_len (f:Nat × Nat→Option Itm):∀ i,((List.range i).flatMap fun s=>(List.range 3).filterMap fun e=>f (s,e)).length≤3 * i
 | 0=>Nat.le_refl _
 | i+1=>by
   rw [List.range_succ (n:=i),List.flatMap_append,List.length_append]
   have h1:=flat_len f i
   have h2:((List.range 3).filterMap fun e=>f (i,e)).length≤3:=Nat.le_trans (List.length_filterMap_le _ _) (by simp)
   simp only [List.flatMap_cons,List.flatMap_nil,List.append_nil]
   omega
theorem upTo_len (f:Nat × Nat→Option Itm) (i e:Nat):(upTo f i e).length≤3 * i+e:=by
 unfold upTo
 rw [List.length_append]
 have h1:=flat_len f i
 have h2:((List.range e).filterMap fun e=>f (i,e)).length≤e:=Nat.le_trans (List.length_filterMap_le _ _) (by simp)
 omega
theorem upTo_all {p:Plan} {f g:Nat × Nat→Option Itm} (hf:∀ (i:Nat) (s:Sec),p.secs[i]? = some s→∀ e,e<3→e<nEnds s.pt→f (i,e)=g (i,e)) (hn:∀ (i:Nat) (s:Sec),p.secs[i]? = some s→s.pt=false→f (i,2)=none):upTo f p.secs.length 0=(endsP p).filterMap g:=by
 have e0:upTo f p.secs.length 0=(List.range p.secs.length).flatMap fun s=>(List.range 3).filterMap fun e=>f (s,e):=by unfold upTo;simp
 rw [e0,endsP,List.filterMap_flatMap]
 have : ∀ l:List Nat,(∀ s∈l,s<p.secs.length)→(l.flatMap fun s=>(List.range 3).filterMap fun e=>f (s,e))=l.flatMap fun s=>((List.range (nEnds (((p.secs[s]?).map Sec.pt).getD false))).map fun e=>(s,e)).filterMap g:=by
  intro l hl
  induction l with
  | nil=>rfl
  | cons s l ih =>
    rw [List.flatMap_cons,List.flatMap_cons,ih fun t ht=>hl t (List.mem_cons_of_mem _ ht)]
    congr 1
    have hs:=hl s (List.mem_cons_self ..)
    have hx:=List.getElem?_eq_getElem hs
    generalize p.secs[s]=x at hx
    rw [hx,Option.map_some,Option.getD_some,List.filterMap_map]
    cases hp:x.pt with
    | true =>
      have h0:=hf s x hx 0 (by decide) (by rw[hp];decide)
      have h1:=hf s x hx 1 (by decide) (by rw[hp];decide)
      have h2:=hf s x hx 2 (by decide) (by rw[hp];decide)
      simp only [nEnds,if_true,List.range,List.range.loop,List.filterMap_cons,List.filterMap_nil,h0,h1,h2,Function.comp]
    | false =>
      have h0:=hf s x hx 0 (by decide) (by rw[hp];decide)
      have h1:=hf s x hx 1 (by decide) (by rw[hp];decide)
      have h2:=hn s x hx hp
      simp only [nEnds,Bool.false_eq_true,if_false,List.range,List.range.loop,List.filterMap_cons,List.filterMap_nil,h0,h1,h2,Function.comp]
 exact this _ fun s hs=>List.mem_range.1 hs
end Go.Proofs.YtncphjodaklleaaGreat.Pl
namespace Go.Proofs.YtncphjodaklleaaGreat.Wk
open Go Pl
structure Stp where
 s:Int
 f:Int
 t:Int
deriving DecidableEq
def secAt (p:Plan) (s:Int):Option Sec:=if s<0 then none else p.secs[s.toNat]?
def outs (p:Plan) (s f:Int):List Stp :=
 match secAt p s with
 | none=>[]
 | some x=>if x.pt then (if f=0 then [⟨s,0,1⟩,⟨s,0,2⟩] else if f=1∨f=2 then [⟨s,f,0⟩] else []) else if f=0∨f=1 then [⟨s,f,1 - f⟩] else []
def isEnd (x:Sec) (e:Int):Bool:=decide (0≤e) && (decide (e≤2) && (decide (e≠2) || x.pt))
def endOf (p:Plan) (s e:Int):Option En :=
 match secAt p s with
 | none=>none
 | some x=>if isEnd x e then some (x.get e.toNat) else none
def next (p:Plan) (s e:Int):Int × Int × Bool :=
 match endOf p s e with
 | none=>(0,0,false)
 | some x=>if x.goes<0 then (0,0,false) else (x.goes,x.at_,true)
def signal (p:Plan) (s e:Int):Int :=
 match endOf p s e with
 | none=>-1
 | some x=>x.sig
def isPoint (p:Plan) (s:Int):Bool:=((secAt p s).map Sec.pt).getD false
def position (p:Plan) (x:Stp):Int:=if isPoint p x.s then max (max x.f x.t) 0 else 0
def within (l:List Stp) (s:Int):Bool:=l.any fun x=>decide (x.s=s)
theorem secAt_neg {p:Plan} {s:Int} (h:s<0):secAt p s=none:=by unfold secAt;rw[if_pos h]
theorem secAt_big {p:Plan} {k:Nat} (h:p.secs.length≤k):secAt p (k:Int)=none:=by
 unfold secAt
 rw [if_neg (by omega),Int.toNat_natCast,List.getElem?_eq_none h]
theorem secAt_some {p:Plan} {k:Nat} {x:Sec} (h:p.secs[k]? = some x):secAt p (k:Int)=some x:=by
 unfold secAt
 rw [if_neg (by omega),Int.toNat_natCast,h]
theorem sec_ways (p:Plan) (s:Int):(s<0∧secAt p s=none)∨∃ k:Nat,s=k∧((p.secs.length≤k∧secAt p (k:Int)=none)∨∃ x,p.secs[k]? = some x∧secAt p (k:Int)=some x):=by
 by_cases h:s<0
 ·exact .inl ⟨h,secAt_neg h⟩
 ·refine .inr ⟨s.toNat,by omega,?_⟩
  by_cases hk:p.secs.length≤s.toNat
  ·exact .inl ⟨hk,secAt_big hk⟩
  ·exact .inr ⟨_,List.getElem?_eq_getElem (by omega),secAt_some (List.getElem?_eq_getElem (by omega))⟩
theorem outs_len (p:Plan) (s f:Int):(outs p s f).length≤2:=by
 unfold outs
 split
 ·exact Nat.zero_le _
 ·split
  ·split
   ·exact Nat.le_refl _
   ·split
    ·exact Nat.le_succ _
    ·exact Nat.zero_le _
  ·split
   ·exact Nat.le_succ _
   ·exact Nat.zero_le _
theorem isEnd_lt {x:Sec} {e:Int} (h:isEnd x e=true):0≤e∧e≤2:=by
 unfold isEnd at h
 simp only [Bool.and_eq_true,decide_eq_true_eq] at h
 exact ⟨h.1,h.2.1⟩
end Go.Proofs.YtncphjodaklleaaGreat.Wk
namespace Go.Proofs.YtncphjodaklleaaGreat.Cr
open Go Pl Wk
structure Way where
 steps:List Stp
 exit:Int
deriving DecidableEq
structure HSt where
 tries:Nat
 long:Bool
 out:List Way
def came (h:HSt):HSt:=⟨h.tries+1,h.long || decide (400<h.tries+1),h.out⟩
def turns (b s:Int) (st:List Stp) (h:HSt):Bool:=(came h).long || (decide (s=b) || within st s)
def lasts (p:Plan) (s:Int) (x:Stp):Bool:=decide (0≤signal p s x.t) || !(next p s x.t).2.2
def gone (p:Plan) (go:Int→Int→List Stp→HSt→HSt) (s:Int) (st:List Stp) (h:HSt) (x:Stp):HSt :=
 if lasts p s x then ⟨h.tries,h.long,h.out++[⟨st++[x],signal p s x.t⟩]⟩ else go (next p s x.t).1 (next p s x.t).2.1 (st++[x]) h
def enter (p:Plan) (b:Int):Nat→Int→Int→List Stp→HSt→HSt
 | 0,s,_,st,h=>if turns b s st h then came h else ⟨h.tries+1,true,h.out⟩
 | k+1,s,f,st,h=>if turns b s st h then came h else (outs p s f).foldl (gone p (enter p b k) s st) (came h)
def hunt0:HSt:=⟨0,false,[]⟩
def hunt (p:Plan) (g:Sig):HSt:=if (next p g.sec g.en).2.2 then enter p g.sec 16 (next p g.sec g.en).1 (next p g.sec g.en).2.1 [] hunt0 else hunt0
def sigAt (p:Plan) (i:Int):Option Sig:=if i<0 then none else p.sigs[i.toNat]?
def ofSig (p:Plan) (g:Sig):List Way × Int:=if (hunt p g).long then ([],10) else ((hunt p g).out,0)
def of (p:Plan) (i:Int):List Way × Int :=
 match sigAt p i with
 | none=>([],4)
 | some g=>ofSig p g
theorem came_out (h:HSt):(came h).out=h.out:=rfl
theorem came_tries (h:HSt):(came h).tries=h.tries+1:=rfl
theorem sigAt_ways (p:Plan) (i:Int):(i<0∧sigAt p i=none)∨∃ k:Nat,i=k∧((p.sigs.length≤k∧sigAt p (k:Int)=none)∨∃ x,p.sigs[k]? = some x∧sigAt p (k:Int)=some x):=by
 by_cases h:i<0
 ·exact .inl ⟨h,by unfold sigAt;rw[if_pos h]⟩
 ·refine .inr ⟨i.toNat,by omega,?_⟩
  by_cases hk:p.sigs.length≤i.toNat
  ·exact .inl ⟨hk,by unfold sigAt;rw[if_neg (by omega),Int.toNat_natCast,List.getElem?_eq_none hk]⟩
  ·exact .inr ⟨_,List.getElem?_eq_getElem (by omega),by unfold sigAt;rw[if_neg (by omega),Int.toNat_natCast,List.getElem?_eq_getElem (by omega)]⟩
theorem fold_gone (p:Plan) (go:Int→Int→List Stp→HSt→HSt) (s:Int) (st:List Stp) (R:HSt→HSt→Prop) (hr:∀ h,R h h) (ht:∀ a b c,R a b→R b c→R a c)
 (hs:∀ h x,R h (gone p go s st h x)):∀ (l:List Stp) (h:HSt),R h (l.foldl (gone p go s st) h)
 | [],h=>hr h
 | x :: l,h=>ht _ _ _ (hs h x) (fold_gone p go s st R hr ht hs l _)
def Grows (a b:HSt):Prop:=a.tries≤b.tries∧(a.long=true→b.long=true)∧∃ N,b.out=a.out++N
theorem Grows.refl (a:HSt):Grows a a:=⟨Nat.le_refl _,id,[],(List.append_nil _).symm⟩
theorem Grows.trans {a b c:HSt} (h:Grows a b) (h':Grows b c):Grows a c:=by
 obtain ⟨t1,l1,N1,o1⟩:=h
 obtain ⟨t2,l2,N2,o2⟩:=h'
 exact ⟨Nat.le_trans t1 t2,fun x=>l2 (l1 x),N1++N2,by rw[o2,o1,List.append_assoc]⟩
theorem Grows.came (h:HSt):Grows h (came h):=⟨Nat.le_succ _,fun x=>by unfold Cr.came;simp [x],[],(List.append_nil _).symm⟩
theorem Grows.gone {p:Plan} {go:Int→Int→List Stp→HSt→HSt} (hg:∀ s f st h,Grows h (go s f st h)) (s:Int) (st:List Stp) (h:HSt) (x:Stp):Grows h (gone p go s st h x):=by
 unfold Cr.gone
 split
 ·exact ⟨Nat.le_refl _,id,_,rfl⟩
 ·exact hg _ _ _ _
theorem enter_grows (p:Plan) (b:Int):∀ (k:Nat) (s f:Int) (st:List Stp) (h:HSt),Grows h (enter p b k s f st h)
 | 0,s,f,st,h=>by
   unfold enter
   split
   ·exact Grows.came h
   ·exact ⟨Nat.le_succ _,fun _=>rfl,[],(List.append_nil _).symm⟩
 | k+1,s,f,st,h=>by
   unfold enter
   split
   ·exact Grows.came h
   ·exact (Grows.came h).trans (fold_gone p _ s st Grows Grows.refl (fun _ _ _=>Grows.trans) (fun h x=>Grows.gone (enter_grows p b k) s st h x) _ _)
theorem fold_grows (p:Plan) (b:Int) (k:Nat) (s:Int) (st:List Stp) (l:List Stp) (h:HSt):Grows h (l.foldl (gone p (enter p b k) s st) h) :=
 fold_gone p _ s st Grows Grows.refl (fun _ _ _=>Grows.trans) (fun h x=>Grows.gone (enter_grows p b k) s st h x) l h
theorem fold_le (p:Plan) (go:Int→Int→List Stp→HSt→HSt) (s:Int) (st:List Stp) (B C:Nat) (hC:1≤C)
 (hs:∀ s f st h,(go s f st h).tries≤h.tries+B∧(go s f st h).out.length≤h.out.length+C):∀ (l:List Stp) (h:HSt),(l.foldl (gone p go s st) h).tries≤h.tries+l.length * B∧(l.foldl (gone p go s st) h).out.length≤h.out.length+l.length * C
 | [],h=>⟨Nat.le_add_right _ _,Nat.le_add_right _ _⟩
 | x :: l,h=>by
   obtain ⟨h1,h2⟩:=fold_le p go s st B C hC hs l (gone p go s st h x)
   have h3:(gone p go s st h x).tries≤h.tries+B∧(gone p go s st h x).out.length≤h.out.length+C:=by
    unfold gone
    split
    ·exact ⟨Nat.le_add_right _ _,by simp only [List.length_append,List.length_singleton];omega⟩
    ·exact hs _ _ _ _
   rw [List.foldl_cons,List.length_cons,Nat.succ_mul,Nat.succ_mul]
   omega
theorem enter_le (p:Plan) (b:Int):∀ (k:Nat) (s f:Int) (st:List Stp) (h:HSt),(enter p b k s f st h).tries≤h.tries+(2 ^ (k+1) - 1)∧(enter p b k s f st h).out.length≤h.out.length+2 ^ k
 | 0,s,f,st,h=>by
   unfold enter
   split
   ·exact ⟨by rw[came_tries];omega,by rw[came_out];omega⟩
   ·exact ⟨by simp only;omega,by simp only;omega⟩
 | k + 1,s,f,st,h=>by
   have hp:1≤2 ^ k:=Nat.one_le_two_pow
   have e1:2 ^ (k+1)=2 * 2 ^ k:=by rw[Nat.pow_succ,Nat.mul_comm]
   have e2:2 ^ (k+1+1)=2 * 2 ^ (k+1):=by rw[Nat.pow_succ,Nat.mul_comm]
   unfold enter
   split
   ·exact ⟨by rw[came_tries];omega,by rw[came_out];omega⟩
   ·have hl:=outs_len p s f
    obtain ⟨h1,h2⟩:=fold_le p (enter p b k) s st (2 ^ (k+1) - 1) (2 ^ k) hp (fun s f st h=>enter_le p b k s f st h) (outs p s f) (came h)
    rw [came_tries] at h1
    rw [came_out] at h2
    have q1:(outs p s f).length * (2 ^ (k+1) - 1)≤2 * (2 ^ (k+1) - 1):=Nat.mul_le_mul_right _ hl
    have q2:(outs p s f).length * 2 ^ k≤2 * 2 ^ k:=Nat.mul_le_mul_right _ hl
    omega
def Chain (p:Plan) (b:Int):Int→Int→List Stp→List Stp→Int→Prop
 | _,_,_,[],_=>False
 | s,f,st,x :: t,e=>(s≠b∧within st s=false∧x∈outs p s f)∧((lasts p s x=true∧t=[]∧e=signal p s x.t)∨(lasts p s x=false∧Chain p b (next p s x.t).1 (next p s x.t).2.1 (st++[x]) t e))
def Part (a b:Way):Prop:=∃ l x y ta tb,a.steps=l++x :: ta∧b.steps=l++y :: tb∧x.s=y.s∧x.f=0∧y.f=0∧x.t=1∧y.t=2
def Parts (x y:Stp):Prop:=x.s=y.s∧x.f=0∧y.f=0∧x.t=1∧y.t=2
theorem outs_parts (p:Plan) (s f:Int):(outs p s f).Pairwise Parts:=by
 unfold outs
 split
 ·exact .nil
 ·split
  ·split
   ·exact List.pairwise_pair.2 ⟨rfl,rfl,rfl,rfl,rfl⟩
   ·split
    ·exact List.pairwise_singleton _ _
    ·exact .nil
  ·split
   ·exact List.pairwise_singleton _ _
   ·exact .nil
theorem outs_sec {p:Plan} {s f:Int} {x:Stp} (h:x∈outs p s f):x.s=s:=by
 unfold outs at h
 split at h
 ·cases h
 ·split at h
  ·split at h
   ·simp only [List.mem_cons,List.not_mem_nil,or_false] at h
    rcases h with rfl | rfl <;> rfl
   ·split at h
    ·rw[List.mem_singleton] at h;rw[h]
    ·cases h
  ·split at h
   ·rw[List.mem_singleton] at h;rw[h]
   ·cases h
def News (Q:Stp→List Stp→Int→Prop) (st:List Stp) (l:List Stp) (N:List Way):Prop :=
 (∀ w∈N,∃ x∈l,∃ t,w.steps=st++x :: t∧Q x t w.exit)∧N.Pairwise Part
theorem fold_news (p:Plan) (go:Int→Int→List Stp→HSt→HSt) (s:Int) (st:List Stp) (Q:Stp→List Stp→Int→Prop) :
 ∀ (l:List Stp),l.Pairwise Parts→(∀ x∈l,∀ h,∃ N,(gone p go s st h x).out=h.out++N∧News Q st [x] N)→∀ h,∃ N,(l.foldl (gone p go s st) h).out=h.out++N∧News Q st l N
 | [],_,_,h=>⟨[],(List.append_nil _).symm,fun _ hw=>(by cases hw),.nil⟩
 | x :: l,hp,hx,h=>by
   obtain ⟨N1,o1,n1,m1⟩:=hx x (List.mem_cons_self ..) h
   obtain ⟨hxl,hl⟩:=List.pairwise_cons.1 hp
   obtain ⟨N2,o2,n2,m2⟩:=fold_news p go s st Q l hl (fun y hy=>hx y (List.mem_cons_of_mem _ hy)) (gone p go s st h x)
   refine ⟨N1++N2,by rw[List.foldl_cons,o2,o1,List.append_assoc],fun w hw=>?_,List.pairwise_append.2 ⟨m1,m2,fun a ha b hb=>?_⟩⟩
   ·rcases List.mem_append.1 hw with hw | hw
    ·obtain ⟨y,hy,t,h1,h2⟩:=n1 w hw
     rw [List.mem_singleton] at hy
     exact ⟨y,hy ▸ List.mem_cons_self ..,t,h1,h2⟩
    ·obtain ⟨y,hy,t,h1,h2⟩:=n2 w hw
     exact ⟨y,List.mem_cons_of_mem _ hy,t,h1,h2⟩
   ·obtain ⟨y,hy,t,h1,-⟩:=n1 a ha
    obtain ⟨z,hz,u,h2,-⟩:=n2 b hb
    rw [List.mem_singleton] at hy
    subst hy
    exact ⟨st,y,z,t,u,h1,h2,hxl z hz⟩
def Goes (p:Plan) (b:Int) (k:Nat) (s f:Int) (st:List Stp) (x:Stp) (t:List Stp) (e:Int):Prop:=t.length<k∧Chain p b s f st (x :: t) e
theorem turns_false {b s:Int} {st:List Stp} {h:HSt} (ht:¬ turns b s st h=true):(came h).long=false∧s≠b∧within st s=false:=by
 unfold turns at ht
 cases h1:(came h).long <;> cases h2:within st s <;> by_cases h3:s=b <;> simp [h1,h2,h3] at ht
 exact ⟨rfl,h3,rfl⟩
theorem enter_news (p:Plan) (b:Int):∀ (k:Nat) (s f:Int) (st:List Stp) (h:HSt),∃ N,(enter p b k s f st h).out=h.out++N∧News (Goes p b k s f st) st (outs p s f) N
 | 0,s,f,st,h=>by
   unfold enter
   split
   ·exact ⟨[],(List.append_nil _).symm,fun _ hw=>(by cases hw),.nil⟩
   ·exact ⟨[],(List.append_nil _).symm,fun _ hw=>(by cases hw),.nil⟩
 | k + 1,s,f,st,h=>by
   unfold enter
   split
   ·exact ⟨[],(List.append_nil _).symm,fun _ hw=>(by cases hw),.nil⟩
   ·rename_i ht
    obtain ⟨-,hb,hw⟩:=turns_false ht
    refine fold_news p _ s st _ (outs p s f) (outs_parts p s f) (fun x hx h=>?_) (came h)
    unfold gone
    cases hl:lasts p s x with
    | true =>
      rw [if_pos rfl]
      refine ⟨_,rfl,fun w hw'=>?_,List.pairwise_singleton _ _⟩
      rw [List.mem_singleton] at hw'
      subst hw'
      exact ⟨x,List.mem_cons_self ..,[],rfl,Nat.succ_pos _,⟨hb,hw,hx⟩,.inl ⟨hl,rfl,rfl⟩⟩
    | false =>
      rw [if_neg (by decide)]
      obtain ⟨N,o,n,m⟩:=enter_news p b k (next p s x.t).1 (next p s x.t).2.1 (st++[x]) h
      refine ⟨N,o,fun w hw'=>?_,m⟩
      obtain ⟨y,-,t,h1,h2,h3⟩:=n w hw'
      exact ⟨x,List.mem_cons_self ..,y :: t,by rw[h1,List.append_assoc];rfl,by rw[List.length_cons];omega,⟨hb,hw,hx⟩,.inr ⟨hl,h3⟩⟩
structure More (p q:Plan):Prop where
 outs:∀ s f,outs q s f=outs p s f
 next:∀ s e,next q s e=next p s e
 sig:∀ s e,signal q s e=signal p s e∨0≤signal q s e
theorem More.lasts {p q:Plan} (h:More p q) {s:Int} {x:Stp} (hl:lasts p s x=true):lasts q s x=true:=by
 unfold Cr.lasts at hl ⊢
 rw [h.next]
 rcases h.sig s x.t with h1 | h1
 ·rw[h1];exact hl
 ·rw[decide_eq_true h1,Bool.true_or]
theorem of_some {p:Plan} {i:Int} {g:Sig} (hg:sigAt p i=some g):of p i=ofSig p g:=by unfold of;rw[hg]
theorem of_none {p:Plan} {i:Int} (hg:sigAt p i=none):of p i=([],4):=by unfold of;rw[hg]
theorem ofSig_ways (p:Plan) (g:Sig):((ofSig p g).2=10∧(ofSig p g).1=[])∨((ofSig p g).2=0∧(hunt p g).long=false∧(ofSig p g).1=(hunt p g).out):=by
 unfold ofSig
 cases h:(hunt p g).long with
 | true=>exact .inl ⟨rfl,rfl⟩
 | false=>exact .inr ⟨rfl,rfl,rfl⟩
theorem hunt_news (p:Plan) (g:Sig):(∀ w∈(hunt p g).out,(next p g.sec g.en).2.2=true∧w.steps.length≤16∧Chain p g.sec (next p g.sec g.en).1 (next p g.sec g.en).2.1 [] w.steps w.exit)∧(hunt p g).out.Pairwise Part:=by
 unfold hunt
 cases hn:(next p g.sec g.en).2.2 with
 | false=>exact ⟨fun w hw=>(by cases hw),.nil⟩
 | true =>
   rw [if_pos rfl]
   obtain ⟨N,o,n,m⟩:=enter_news p g.sec 16 (next p g.sec g.en).1 (next p g.sec g.en).2.1 [] hunt0
   rw [show hunt0.out=[] from rfl,List.nil_append] at o
   rw [o]
   refine ⟨fun w hw=>⟨rfl,?_⟩,m⟩
   obtain ⟨x,-,t,h1,h2,h3⟩:=n w hw
   rw [List.nil_append] at h1
   rw [h1]
   exact ⟨by rw[List.length_cons];omega,h3⟩
theorem hunt_len (p:Plan) (g:Sig):(hunt p g).out.length≤65536:=by
 unfold hunt
 split
 ·have:=(enter_le p g.sec 16 (next p g.sec g.en).1 (next p g.sec g.en).2.1 [] hunt0).2
  rw [show hunt0.out.length=0 from rfl] at this
  omega
 ·exact Nat.zero_le _
theorem of_len (p:Plan) (i:Int):(of p i).1.length≤65536:=by
 unfold of
 split
 ·exact Nat.zero_le _
 ·rename_i g _
  rcases ofSig_ways p g with ⟨-,h⟩ | ⟨-,-,h⟩
  ·rw[h];exact Nat.zero_le _
  ·rw[h];exact hunt_len p g
theorem of_way {p:Plan} {g:Sig} {w:Way} (hw:w∈(ofSig p g).1):(ofSig p g).2=0∧(next p g.sec g.en).2.2=true∧w.steps.length≤16∧Chain p g.sec (next p g.sec g.en).1 (next p g.sec g.en).2.1 [] w.steps w.exit:=by
 rcases ofSig_ways p g with ⟨-,h⟩ | ⟨h0,-,h⟩
 ·rw[h] at hw;cases hw
 ·rw [h] at hw
  exact ⟨h0,(hunt_news p g).1 w hw⟩
theorem of_steps {p:Plan} {i:Int} {w:Way} (hw:w∈(of p i).1):w.steps.length≤16:=by
 unfold of at hw
 split at hw
 ·cases hw
 ·exact (of_way hw).2.2.1
def Reach (p:Plan) (b:Int) (w:Way) (k:Nat) (at_ en:Int):Prop :=
 (k < w.steps.length∧(next p at_ en).2.2=true∧Chain p b (next p at_ en).1 (next p at_ en).2.1 (w.steps.take k) (w.steps.drop k) w.exit) ∨
  (k=w.steps.length∧(0≤signal p at_ en∨(next p at_ en).2.2=false)∧w.exit=signal p at_ en)
theorem chain_pos {p:Plan} {b s f:Int} {st t:List Stp} {e:Int} (h:Chain p b s f st t e):0<t.length:=by
 cases t with
 | nil=>unfold Chain at h;exact h.elim
 | cons x t=>exact Nat.succ_pos _
theorem lasts_false {p:Plan} {s:Int} {x:Stp} (h:lasts p s x=false):signal p s x.t<0∧(next p s x.t).2.2=true:=by
 unfold lasts at h
 rw [Bool.or_eq_false_iff] at h
 exact ⟨by have:=of_decide_eq_false h.1;omega,by simpa using h.2⟩
theorem lasts_true {p:Plan} {s:Int} {x:Stp} (h:lasts p s x=true):0≤signal p s x.t∨(next p s x.t).2.2=false:=by
 unfold lasts at h
 rw [Bool.or_eq_true] at h
 rcases h with h | h
 ·exact .inl (of_decide_eq_true h)
 ·exact .inr (by simpa using h)
end Go.Proofs.YtncphjodaklleaaGreat.Cr
namespace Go.Proofs.YtncphjodaklleaaGreat.Lp
open Go Pl Wk
def secLen (p:Plan) (s:Int):Int:=match secAt p s with | none=>0 | some x=>x.len
def len (p:Plan):List Stp→Int
 | []=>0
 | x :: l=>secLen p x.s+len p l
theorem len_append (p:Plan):∀ (l m:List Stp),len p (l++m)=len p l+len p m
 | [],m=>by rw[List.nil_append];show _=0+_;omega
 | x :: l,m=>by
   show secLen p x.s+len p (l++m)=secLen p x.s+len p l+len p m
   rw [len_append p l m];omega
theorem len_snoc (p:Plan) (l:List Stp) (x:Stp):len p (l++[x])=len p l+secLen p x.s:=by
 rw [len_append]
 show _+(secLen p x.s+0)=_
 omega
def bars (b:Int) (way st:List Stp) (s:Int):Bool:=decide (s=b) || (within way s || within st s)
def lasts (p:Plan) (sum s:Int) (x:Stp):Bool:=!(next p s x.t).2.2 || decide (p.ov≤sum)
def seek (p:Plan) (go:Int→Int→List Stp→Nat→Option (List Stp) × Nat) (s sum:Int) (st:List Stp):List Stp→Nat→Option (List Stp) × Nat
 | [],n=>(none,n)
 | x :: l,n=>if lasts p sum s x then (some (st++[x]),n) else
     match go (next p s x.t).1 (next p s x.t).2.1 (st++[x]) n with
     | (some r,m)=>(some r,m)
     | (none,m)=>seek p go s sum st l m
def enter (p:Plan) (b:Int) (way:List Stp):Nat→Int→Int→List Stp→Int→Nat→Option (List Stp) × Nat
 | 0,_,_,_,_,n=>(none,n+1)
 | k + 1,s,f,st,sum,n=>if decide (400<n+1) || bars b way st s then (none,n+1) else
     seek p (fun s' f' st' n'=>enter p b way k s' f' st' (sum+secLen p s) n') s (sum+secLen p s) st (outs p s f) (n+1)
def hunt (p:Plan) (b:Int) (way:List Stp) (x:Sig):Option (List Stp) × Nat:=enter p b way 16 (next p x.sec x.en).1 (next p x.sec x.en).2.1 [] 0 0
def ofSig (p:Plan) (b:Int) (way:List Stp) (x:Sig):List Stp × Int :=
 if (next p x.sec x.en).2.2 then (if 400<(hunt p b way x).2 then ([],10) else ((hunt p b way x).1.getD [],0)) else ([],0)
def of (p:Plan) (i:Int) (w:Cr.Way):List Stp × Int :=
 match Cr.sigAt p i with
 | none=>([],4)
 | some g=>if (p.sigs.length:Int)≤w.exit then ([],4) else if w.exit<0∨p.ov=0 then ([],0) else
  match Cr.sigAt p w.exit with
  | none=>([],4)
  | some x=>ofSig p g.sec w.steps x
def Chain (p:Plan) (b:Int) (way:List Stp):Int→Int→List Stp→Int→List Stp→Prop
 | _,_,_,_,[]=>False
 | s, f,st,sum,x :: t=>(s≠b∧within way s=false∧within st s=false∧x∈outs p s f) ∧
  ((lasts p (sum+secLen p s) s x=true∧t=[])∨(lasts p (sum+secLen p s) s x=false∧Chain p b way (next p s x.t).1 (next p s x.t).2.1 (st++[x]) (sum+secLen p s) t))
theorem bars_false {b s:Int} {way st:List Stp} (h:bars b way st s=false):s≠b∧within way s=false∧within st s=false:=by
 unfold bars at h
 rw [Bool.or_eq_false_iff,Bool.or_eq_false_iff] at h
 exact ⟨of_decide_eq_false h.1,h.2.1,h.2.2⟩
theorem seek_found {p:Plan} {go:Int→Int→List Stp→Nat→Option (List Stp) × Nat} {s sum:Int} {st:List Stp} {Q:Stp→List Stp→Prop} :
 ∀ (l:List Stp) (n:Nat) {r:List Stp} {m:Nat},(∀ x∈l,lasts p sum s x=true→Q x [])→(∀ x∈l,lasts p sum s x=false→∀ n r m,go (next p s x.t).1 (next p s x.t).2.1 (st++[x]) n=(some r,m)→∃ t,r=st++x :: t∧Q x t)→seek p go s sum st l n=(some r,m)→∃ x t,r=st++x :: t∧Q x t
 | [],n,r,m,_,_,h=>by unfold seek at h;cases h
 | x :: l,n,r,m,h1,h2,h=>by
   unfold seek at h
   cases hl:lasts p sum s x with
   | true =>
     rw [hl,if_pos rfl] at h
     cases h
     exact ⟨x,[],rfl,h1 x (List.mem_cons_self ..) hl⟩
   | false =>
     rw [hl,if_neg (by decide)] at h
     split at h
     ·rename_i r' m' hg
      cases h
      obtain ⟨t,ht,hq⟩:=h2 x (List.mem_cons_self ..) hl n _ _ hg
      exact ⟨x,t,ht,hq⟩
     ·exact seek_found l _ (fun y hy=>h1 y (List.mem_cons_of_mem _ hy)) (fun y hy=>h2 y (List.mem_cons_of_mem _ hy)) h
theorem enter_found (p:Plan) (b:Int) (way:List Stp):∀ (k:Nat) (s f:Int) (st:List Stp) (sum:Int) (n:Nat) {r:List Stp} {m:Nat},enter p b way k s f st sum n=(some r,m)→∃ t,r=st++t∧t.length≤k∧Chain p b way s f st sum t
 | 0,s,f,st,sum,n,r,m,h=>by unfold enter at h;cases h
 | k + 1, s,f,st,sum,n,r,m,h=>by
   unfold enter at h
   split at h
   ·cases h
   ·rename_i hb
    rw [Bool.not_eq_true,Bool.or_eq_false_iff] at hb
    obtain ⟨b1,b2,b3⟩:=bars_false hb.2
    obtain ⟨x,t,ht,hx,hl,hc⟩:=seek_found (Q:=fun x t=>x∈outs p s f∧t.length≤k∧((lasts p (sum+secLen p s) s x=true∧t=[])∨(lasts p (sum+secLen p s) s x=false∧Chain p b way (next p s x.t).1 (next p s x.t).2.1 (st++[x]) (sum+secLen p s) t))) (outs p s f) (n+1)
     (fun x hx hl=>⟨hx,Nat.zero_le _,.inl ⟨hl,rfl⟩⟩)
     (fun x hx hl n r m hg=>by
      obtain ⟨t,ht,h1,h2⟩:=enter_found p b way k _ _ _ _ _ hg
      exact ⟨t,by rw[ht,List.append_assoc];rfl,hx,h1,.inr ⟨hl,h2⟩⟩) h
    exact ⟨x :: t,ht,by rw[List.length_cons];omega,⟨b1,b2,b3,hx⟩,hc⟩
theorem seek_le {p:Plan} {go:Int→Int→List Stp→Nat→Option (List Stp) × Nat} {s sum:Int} {st:List Stp} {B:Nat} (hg:∀ s f st n,n≤(go s f st n).2∧(go s f st n).2≤n+B) :
 ∀ (l:List Stp) (n:Nat),n≤(seek p go s sum st l n).2∧(seek p go s sum st l n).2≤n+l.length * B
 | [],n=>by unfold seek;exact ⟨Nat.le_refl _,Nat.le_add_right _ _⟩
 | x :: l,n=>by
   unfold seek
   rw [List.length_cons,Nat.succ_mul]
   cases hl:lasts p sum s x with
   | true =>
     rw [if_pos rfl]
     exact ⟨Nat.le_refl _,Nat.le_add_right _ _⟩
   | false =>
     rw [if_neg (by decide)]
     have h1:=hg (next p s x.t).1 (next p s x.t).2.1 (st++[x]) n
     split
     ·rename_i r m hq
      rw [hq] at h1
      exact ⟨h1.1,by simp only at h1 ⊢;omega⟩
     ·rename_i m hq
      rw [hq] at h1
      have h2:=seek_le (p:=p) (s:=s) (sum:=sum) (st:=st) hg l m
      simp only at h1
      omega
theorem enter_le (p:Plan) (b:Int) (way:List Stp):∀ (k:Nat) (s f:Int) (st:List Stp) (sum:Int) (n:Nat),n<(enter p b way k s f st sum n).2∧(enter p b way k s f st sum n).2≤n+(2 ^ (k+1) - 1)
 | 0,s,f,st,sum,n=>by unfold enter;exact ⟨Nat.lt_succ_self _,by simp⟩
 | k + 1,s,f,st,sum,n=>by
   have hp:1≤2 ^ k:=Nat.one_le_two_pow
   have e1:2 ^ (k+1)=2 * 2 ^ k:=by rw[Nat.pow_succ,Nat.mul_comm]
   have e2:2 ^ (k+1+1)=2 * 2 ^ (k+1):=by rw[Nat.pow_succ,Nat.mul_comm]
   unfold enter
   split
   ·exact ⟨Nat.lt_succ_self _,by simp only;omega⟩
   ·have h:=seek_le (p:=p) (go:=fun s' f' st' n'=>enter p b way k s' f' st' (sum+secLen p s) n') (s:=s) (sum:=sum+secLen p s) (st:=st) (B:=2 ^ (k+1) - 1) (fun s' f' st' n'=>⟨Nat.le_of_lt (enter_le p b way k s' f' st' _ n').1,(enter_le p b way k s' f' st' _ n').2⟩) (outs p s f) (n+1)
    have q1:(outs p s f).length * (2 ^ (k+1) - 1)≤2 * (2 ^ (k+1) - 1):=Nat.mul_le_mul_right _ (outs_len p s f)
    omega
structure Meas (p:Plan):Prop where
 ov:0≤p.ov∧p.ov≤1125899906842624
 len:∀ (i:Nat) (s:Sec),p.secs[i]? = some s→0≤s.len∧s.len≤1099511627776
 sig:∀ (i:Nat) (s:Sec),p.secs[i]? = some s→∀ e,e<3→-1≤(s.get e).sig∧(s.get e).sig<p.sigs.length
theorem parseN_le {d:List UInt8} {m:Int} (h:Fig.parseB d m=true):Fig.parseN d m≤m:=by
 unfold Fig.parseN
 rw [if_pos h]
 unfold Fig.parseB at h
 rw [Bool.and_eq_true] at h
 exact of_decide_eq_true h.2
theorem most_le (k:Int):It.most k≤1099511627776:=by
 unfold It.most
 split
 ·exact Int.le_refl _
 ·split
  ·exact Int.le_refl _
  ·split
   ·decide
   ·split
    ·decide
    ·exact Int.le_refl _
theorem parse_le {l:List UInt8} {x:It.Itm} (h:It.parse l=some x):x.n≤1099511627776:=by
 unfold It.parse at h
 split at h
 ·cases hw : Ln.words l with
  | nil=>rw[hw] at h;cases h
  | cons a t =>
    rw [hw] at h
    unfold It.parseW at h
    simp only at h
    generalize It.kind a=k at h
    unfold It.parseK at h
    split at h
    ·split at h
     ·split at h
      ·rename_i hb
       cases h
       exact Int.le_trans (parseN_le hb) (most_le k)
      ·cases h
     ·cases h
    ·split at h
     ·split at h
      ·split at h
       ·rename_i hb
        cases h
        simp only [Bool.and_eq_true] at hb
        exact parseN_le hb.1.2
       ·cases h
      ·cases h
     ·split at h
      ·split at h
       ·split at h
        ·cases h;exact (by decide:(0:Int)≤1099511627776)
        ·cases h
       ·cases h
      ·split at h
       ·split at h
        ·split at h
         ·cases h;exact (by decide:(0:Int)≤1099511627776)
         ·cases h
        ·cases h
       ·split at h
        ·split at h
         ·split at h
          ·cases h;exact (by decide:(0:Int)≤1099511627776)
          ·cases h
         ·cases h
        ·cases h
 ·cases h
theorem right_le {x:It.Itm} (h:It.right x=true):0≤x.n∧x.n≤1099511627776:=by
 unfold It.right at h
 rw [Bool.and_eq_true] at h
 exact ⟨of_decide_eq_true h.1,parse_le (of_decide_eq_true h.2)⟩
theorem num_le {L:List It.Itm} (hL:Ok L) (k:Int):0≤num L k∧num L k≤1099511627776:=by
 unfold num
 cases h:L.find? (fun x=>decide (x.k=k)) with
 | none=>exact ⟨Int.le_refl _,by decide⟩
 | some x=>exact right_le (hL.right x (List.mem_of_find?_eq_some h))
theorem meas_fin {L:List It.Itm} (hL:Ok L) (hS:Pl.Shut L):Meas (fin L) where
 ov := by
  have h:=num_le hL 1
  show 0≤num L 1∧num L 1≤1125899906842624
  omega
 len i s hs:=by
  obtain ⟨x,-,hx,-,-,rfl⟩:=secs_at hL hs
  exact right_le (hL.right x (mem_secs.1 hx).1)
 sig i s hs e he:=by
  rcases end_cases hL hS hs he with h | ⟨_,-,-,-,-,-,-,-,h⟩ | ⟨_,_,_,_,-,-,-,-,-,-,-,-,-,-,h | ⟨k,g,hg,h,-,-⟩⟩
  ·rw[h];exact ⟨by decide,by show (-1:Int)<_;omega⟩
  ·rw[h];exact ⟨by decide,by omega⟩
  ·rw[h];exact ⟨by decide,by omega⟩
  ·rw [h]
   have:=(List.getElem?_eq_some_iff.1 hg).1
   exact ⟨by omega,by omega⟩
theorem secLen_bd {p:Plan} (hm:Meas p) (s:Int):0≤secLen p s∧secLen p s≤1099511627776:=by
 unfold secLen secAt
 split
 ·exact ⟨Int.le_refl _,by decide⟩
 ·rename_i x h
  split at h
  ·cases h
  ·exact hm.len _ _ h
theorem len_bd {p:Plan} (hm:Meas p):∀ (l:List Stp),0≤len p l∧len p l≤l.length * 1099511627776
 | []=>⟨Int.le_refl _,by show (0:Int)≤_;simp⟩
 | x :: l=>by
   have h1:=len_bd hm l
   have h2:=secLen_bd hm x.s
   rw [List.length_cons]
   show 0≤secLen p x.s+len p l∧secLen p x.s+len p l≤_
   omega
theorem endOf_some {p:Plan} {s e:Int} {x:En} (h:endOf p s e=some x):∃ (i k:Nat) (y:Sec),s=i∧e=k∧k<3∧p.secs[i]? = some y∧x=y.get k:=by
 unfold endOf at h
 rcases sec_ways p s with ⟨-,h1⟩ | ⟨i,rfl,⟨-,h1⟩ | ⟨y,hy,h1⟩⟩
 ·rw[h1] at h;cases h
 ·rw[h1] at h;cases h
 ·rw [h1] at h
  simp only at h
  split at h
  ·rename_i hi
   have:=isEnd_lt hi
   cases h
   exact ⟨i,e.toNat,y,rfl,by omega,by omega,hy,rfl⟩
  ·cases h
theorem signal_bd {p:Plan} (hm:Meas p) (s e:Int):-1≤signal p s e∧signal p s e<p.sigs.length:=by
 unfold signal
 split
 ·exact ⟨Int.le_refl _,by omega⟩
 ·rename_i x h
  obtain ⟨i,k,y,-,-,hk,hy,rfl⟩:=endOf_some h
  exact hm.sig i y hy k hk
theorem next_in {p:Plan} (hf:Fit p) {s e:Int} (h:(next p s e).2.2=true):∃ (j f:Nat),(next p s e).1=j∧j<p.secs.length∧(next p s e).2.1=f∧f<3:=by
 unfold next at h ⊢
 split at h
 ·cases h
 ·rename_i x hx
  split at h
  ·cases h
  ·rename_i h0
   obtain ⟨i,k,y,-,-,hk,hy,rfl⟩:=endOf_some hx
   obtain ⟨h1,h2,h3⟩:=hf.ends i y hy k hk
   have h4:=h3 (by omega)
   rw [if_neg h0]
   exact ⟨((y.get k).goes).toNat,((y.get k).at_).toNat,by simp only;omega,by omega,by simp only;omega,by omega⟩
theorem secLen_at {p:Plan} {i:Nat} {x:Sec} (h:p.secs[i]? = some x):secLen p (i:Int)=x.len:=by
 unfold secLen
 rw [secAt_some h]
theorem chain_exit {p:Plan} {b:Int}:∀ {t:List Stp} {s f:Int} {st:List Stp} {e:Int},Cr.Chain p b s f st t e→∃ s' f',e=signal p s' f'
 | [],_,_,_,_,h=>by unfold Cr.Chain at h;exact h.elim
 | x :: t,s,f,st,e,h=>by
   unfold Cr.Chain at h
   rcases h.2 with ⟨-,-,h⟩ | ⟨-,h⟩
   ·exact ⟨_,_,h⟩
   ·exact chain_exit h
theorem way_exit {p:Plan} (hm:Meas p) {i:Int} {w:Cr.Way} (hw:w∈(Cr.of p i).1):-1≤w.exit∧w.exit<p.sigs.length:=by
 unfold Cr.of at hw
 split at hw
 ·cases hw
 ·obtain ⟨-,-,-,h⟩:=Cr.of_way hw
  obtain ⟨s',f',h⟩:=chain_exit h
  rw [h]
  exact signal_bd hm s' f'
theorem chain_pos {p:Plan} {b s f sum:Int} {way st t:List Stp} (h:Chain p b way s f st sum t):0<t.length:=by
 cases t with
 | nil=>unfold Chain at h;exact h.elim
 | cons x t=>exact Nat.succ_pos _
theorem ofSig_cases (p:Plan) (b:Int) (way:List Stp) (x:Sig):ofSig p b way x=([],10)∨ofSig p b way x=([],0)∨((hunt p b way x).2≤400∧∃ l,(hunt p b way x).1=some l∧ofSig p b way x=(l,0)∧(next p x.sec x.en).2.2=true∧l.length≤16∧Chain p b way (next p x.sec x.en).1 (next p x.sec x.en).2.1 [] 0 l):=by
 unfold ofSig
 split
 ·rename_i hn
  split
  ·exact .inl rfl
  ·rename_i h4
   cases hh:(hunt p b way x).1 with
   | none=>exact .inr (.inl rfl)
   | some l =>
     obtain ⟨t,h1,h2,h3⟩:=enter_found p b way 16 (next p x.sec x.en).1 (next p x.sec x.en).2.1 [] 0 0 (r:=l) (m:=(hunt p b way x).2) (by rw[← hh];rfl)
     rw [List.nil_append] at h1
     subst h1
     exact .inr (.inr ⟨by omega,l,rfl,rfl,hn,h2,h3⟩)
 ·exact .inr (.inl rfl)
theorem of_eq {p:Plan} {i:Int} {g:Sig} (hg:Cr.sigAt p i=some g) {w:Cr.Way} (hw:w.exit<p.sigs.length):(w.exit<0∨p.ov=0)∧of p i w=([],0)∨0≤w.exit∧p.ov≠0∧∃ x,Cr.sigAt p w.exit=some x∧of p i w=ofSig p g.sec w.steps x:=by
 unfold of
 rw [hg]
 simp only
 rw [if_neg (by omega)]
 by_cases h:w.exit<0∨p.ov=0
 ·rw [if_pos h]
  exact .inl ⟨h,rfl⟩
 ·rw [if_neg h]
  rcases Cr.sigAt_ways p w.exit with ⟨h1,-⟩ | ⟨k,hk,⟨h1,-⟩ | ⟨x,-,hx⟩⟩
  ·exact absurd (.inl h1) h
  ·omega
  ·rw [hk,hx]
   exact .inr ⟨by omega,fun h'=>h (.inr h'),x,rfl,rfl⟩
theorem of_steps {p:Plan} {i:Int} {w:Cr.Way}:(of p i w).1.length≤16:=by
 unfold of
 split
 ·exact Nat.zero_le _
 ·split
  ·exact Nat.zero_le _
  ·split
   ·exact Nat.zero_le _
   ·split
    ·exact Nat.zero_le _
    ·rename_i g _ _ _ _ x _
     rcases ofSig_cases p g.sec w.steps x with h | h | ⟨-,l,-,h,-,h2,-⟩
     ·rw[h];exact Nat.zero_le _
     ·rw[h];exact Nat.zero_le _
     ·rw[h];exact h2
def Reach (p:Plan) (b:Int) (way t:List Stp) (k:Nat) (at_ en:Int):Prop :=
 (k < t.length∧(next p at_ en).2.2=true∧len p (t.take k)<p.ov∧Chain p b way (next p at_ en).1 (next p at_ en).2.1 (t.take k) (len p (t.take k)) (t.drop k)) ∨
  (k=t.length∧((next p at_ en).2.2=false∨p.ov≤len p t)∧len p t - secLen p at_<p.ov)
theorem lasts_false {p:Plan} {sum s:Int} {x:Stp} (h:lasts p sum s x=false):(next p s x.t).2.2=true∧sum<p.ov:=by
 unfold lasts at h
 rw [Bool.or_eq_false_iff] at h
 exact ⟨by simpa using h.1,by have:=of_decide_eq_false h.2;omega⟩
theorem lasts_true {p:Plan} {sum s:Int} {x:Stp} (h:lasts p sum s x=true):(next p s x.t).2.2=false∨p.ov≤sum:=by
 unfold lasts at h
 rw [Bool.or_eq_true] at h
 rcases h with h | h
 ·exact .inl (by simpa using h)
 ·exact .inr (of_decide_eq_true h)
theorem of_nought {p:Plan} {i:Int} {g:Sig} (hg:Cr.sigAt p i=some g) {w:Cr.Way} (hw:w.exit<p.sigs.length) (h:w.exit<0∨p.ov=0):of p i w=([],0):=by
 rcases of_eq hg hw with ⟨-,h'⟩ | ⟨h3,h1,-⟩
 ·exact h'
 ·rcases h with h | h
  ·omega
  ·exact absurd h h1
theorem chain_apart {p:Plan} {b:Int} {way:List Stp}:∀ {t:List Stp} {s f:Int} {st:List Stp} {sum:Int},Chain p b way s f st sum t→(t.map (·.s)).Nodup∧∀ x∈t,within st x.s=false
 | [],_,_,_,_,h=>by unfold Chain at h;exact h.elim
 | x :: t,s,f,st,sum,h=>by
   unfold Chain at h
   obtain ⟨⟨-,-,h1,h2⟩,h3⟩:=h
   have hs:=Cr.outs_sec h2
   rw [← hs] at h1
   rcases h3 with ⟨-,rfl⟩ | ⟨-,h3⟩
   ·refine ⟨by simp,fun y hy=>?_⟩
    rw [List.mem_singleton] at hy
    rw [hy];exact h1
   ·obtain ⟨k1,k2⟩:=chain_apart h3
    refine ⟨?_,fun y hy=>?_⟩
    ·rw [List.map_cons,List.nodup_cons]
     refine ⟨fun hm=>?_,k1⟩
     obtain ⟨y,hy,he⟩:=List.mem_map.1 hm
     have:=k2 y hy
     unfold within at this
     rw [List.any_append,Bool.or_eq_false_iff] at this
     have h4:=this.2
     simp only [List.any_cons,List.any_nil,Bool.or_false,decide_eq_false_iff_not] at h4
     exact h4 he.symm
    ·rcases List.mem_cons.1 hy with rfl | hy
     ·exact h1
     ·have:=k2 y hy
      unfold within at this ⊢
      rw [List.any_append,Bool.or_eq_false_iff] at this
      exact this.1
end Go.Proofs.YtncphjodaklleaaGreat.Lp
namespace Go.Proofs.YtncphjodaklleaaGreat.Nr
open Go Pl Wk
def lenAt (p:Plan) (s:Nat):Int:=((p.secs[s]?).map Sec.len).getD 0
def Edge (p:Plan) (a b:Nat × Nat):Prop:=∃ from_:Nat,from_<3∧(∃ x∈outs p a.1 from_,x.t=(a.2:Int))∧next p a.1 from_=((b.1:Int),(b.2:Int),true)
inductive Reach (p:Plan) (st:Nat × Nat):Nat × Nat→Int→Prop
 | start:Reach p st st 0
 | step {a b:Nat × Nat} {n:Int}:Reach p st a n→Edge p a b→Reach p st b (n+lenAt p a.1)
def Got (p:Plan) (ap:Int) (st:Nat × Nat) (s:Nat):Prop:=∃ (e:Nat) (n:Int),e<3∧Reach p st (s,e) n∧n<ap
noncomputable def yes (P:Prop):Bool:=@decide P (Classical.propDecidable P)
theorem yes_iff {P:Prop}:yes P=true ↔ P:=@decide_eq_true_iff P (Classical.propDecidable P)
noncomputable def sects (p:Plan) (ap:Int) (st:Nat × Nat):List Nat:=(List.range p.secs.length).filter fun s=>yes (Got p ap st s)
def total (p:Plan) (l:List Nat):Int:=l.foldl (fun n s=>n+lenAt p s) 0
def at_ (T:List Int) (a:Nat × Nat):Int:=(T[3 * a.1+a.2]?).getD (-1)
structure Sound (p:Plan) (ap:Int) (st:Nat × Nat) (T:List Int):Prop where
 len:T.length=3 * p.secs.length
 least:∀ a:Nat × Nat,a.1<p.secs.length→a.2<3→at_ T a = -1∨(0≤at_ T a∧at_ T a<ap∧Reach p st a (at_ T a))
 first:at_ T st=0
def ClosedAt (p:Plan) (ap:Int) (T:List Int) (a:Nat × Nat):Prop:=0≤at_ T a→∀ b,Edge p a b→at_ T a+lenAt p a.1<ap→0≤at_ T b∧at_ T b≤at_ T a+lenAt p a.1
def Closed (p:Plan) (ap:Int) (T:List Int):Prop:=∀ a:Nat × Nat,a.1<p.secs.length→a.2<3→ClosedAt p ap T a
structure Done (p:Plan) (ap:Int) (st:Nat × Nat) (T:List Int):Prop extends Sound p ap st T where
 closed:Closed p ap T
theorem lenAt_bd {p:Plan} (hm:Lp.Meas p) (s:Nat):0≤lenAt p s∧lenAt p s≤1099511627776:=by
 unfold lenAt
 cases h:p.secs[s]? with
 | none=>exact ⟨by decide,by decide⟩
 | some x=>exact hm.len s x h
theorem Reach.nonneg {p:Plan} (hm:Lp.Meas p) {st a:Nat × Nat} {n:Int} (h:Reach p st a n):0≤n:=by
 induction h with
 | start=>exact Int.le_refl _
 | @step a _ _ _ _ ih=>have:=(lenAt_bd hm a.1).1;omega
theorem edge_in {p:Plan} (hf:Fit p) {a b:Nat × Nat} (h:Edge p a b):b.1<p.secs.length∧b.2<3:=by
 obtain ⟨k,hk,-,hn⟩:=h
 have hd:(Wk.next p (a.1:Int) (k:Int))=((b.1:Int),(b.2:Int),true):=hn
 unfold Wk.next at hd
 split at hd
 ·exact absurd (congrArg (fun x=>x.2.2) hd) (by simp)
 ·rename_i x hx
  split at hd
  ·exact absurd (congrArg (fun x=>x.2.2) hd) (by simp)
  ·rename_i hg
   unfold endOf at hx
   split at hx
   ·cases hx
   ·rename_i y hy
    split at hx
    ·rename_i hend
     have hyk:p.secs[a.1]? = some y:=by
      unfold secAt at hy
      rw [if_neg (by omega),Int.toNat_natCast] at hy
      exact hy
     cases hx
     rw [Int.toNat_natCast] at hd hg
     have h1:=hf.ends a.1 y hyk k hk
     simp only [Prod.mk.injEq] at hd
     obtain ⟨e1,e2,-⟩:=hd
     have h2:=h1.2.2 (by omega)
     omega
    ·cases hx
theorem edge_from {p:Plan} {a b:Nat × Nat} (h:Edge p a b):a.1<p.secs.length:=by
 obtain ⟨k,-,⟨x,hx,-⟩,-⟩:=h
 rcases Nat.lt_or_ge a.1 p.secs.length with h | h
 ·exact h
 ·unfold outs at hx
  rw [secAt_big h] at hx
  cases hx
theorem edge_to {p:Plan} {a b:Nat × Nat} (h:Edge p a b):a.2<3:=by
 obtain ⟨k,-,⟨x,hx,ht⟩,-⟩:=h
 have h2 : x.t=1∨x.t=2∨x.t=0∨x.t=1 - (k:Int):=by
  unfold outs at hx
  split at hx
  ·cases hx
  ·split at hx
   ·split at hx
    ·simp only [List.mem_cons,List.not_mem_nil,or_false] at hx
     rcases hx with rfl | rfl
     ·exact .inl rfl
     ·exact .inr (.inl rfl)
    ·split at hx
     ·simp only [List.mem_cons,List.not_mem_nil,or_false] at hx
      rw [hx]
      exact .inr (.inr (.inl rfl))
     ·cases hx
   ·split at hx
    ·simp only [List.mem_cons,List.not_mem_nil,or_false] at hx
     rw [hx]
     exact .inr (.inr (.inr rfl))
    ·cases hx
 omega
theorem Reach.in_ {p:Plan} (hf:Fit p) {st a:Nat × Nat} {n:Int} (hst:st.1<p.secs.length∧st.2<3) (h:Reach p st a n):a.1<p.secs.length∧a.2<3:=by
 cases h with
 | start=>exact hst
 | step _ he=>exact edge_in hf he
theorem Done.le {p:Plan} (hm:Lp.Meas p) {ap:Int} {st:Nat × Nat} {T:List Int} (hd:Done p ap st T) {a:Nat × Nat} {n:Int} (h:Reach p st a n) (hn:n<ap):0≤at_ T a∧at_ T a≤n:=by
 induction h with
 | start=>rw[hd.first];exact ⟨Int.le_refl _,Int.le_refl _⟩
 | @step a b n hr he ih =>
   have hl:=(lenAt_bd hm a.1).1
   obtain ⟨h1,h2⟩:=ih (by omega)
   obtain ⟨h3,h4⟩:=hd.closed a (edge_from he) (edge_to he) h1 b he (by omega)
   exact ⟨h3,by omega⟩
def told (T:List Int) (s:Nat):Bool:=decide (0≤max (at_ T (s,0)) (max (at_ T (s,1)) (at_ T (s,2))))
theorem ap_fin {L:List It.Itm} (hL:Pl.Ok L):0≤(fin L).ap∧(fin L).ap≤1099511627776:=by
 have h:=Lp.num_le hL 2
 show 0≤num L 2∧num L 2≤1099511627776
 omega
noncomputable def of (p:Plan) (i:Int):List Nat × Int :=
 match Cr.sigAt p i with
 | none=>([],0)
 | some g=>if p.ap=0 then ([],0) else (sects p p.ap (g.sec.toNat,g.en.toNat),total p (sects p p.ap (g.sec.toNat,g.en.toNat)))
def far (p:Plan) (n:Int):Plan:={ p with ap:=n }
theorem mem_sects {p:Plan} {ap:Int} {st:Nat × Nat} {s:Nat}:s∈sects p ap st ↔ s<p.secs.length∧Got p ap st s:=by
 unfold sects
 rw [List.mem_filter,List.mem_range,yes_iff]
theorem sects_none {p:Plan} (hm:Lp.Meas p) {st:Nat × Nat}:sects p 0 st=[]:=by
 apply List.eq_nil_iff_forall_not_mem.2
 intro s hs
 obtain ⟨-,e,n,-,hr,hn⟩:=mem_sects.1 hs
 have:=hr.nonneg hm
 omega
theorem sects_len {p:Plan} (hf:Fit p) (ap:Int) (st:Nat × Nat):(sects p ap st).length≤24:=by
 unfold sects
 have:=List.length_filter_le (fun s=>yes (Got p ap st s)) (List.range p.secs.length)
 rw [List.length_range] at this
 have:=hf.few
 omega
theorem of_len {p:Plan} (hf:Fit p) {i:Int}:(of p i).1.length≤24:=by
 unfold of
 split
 ·exact Nat.zero_le _
 ·split
  ·exact Nat.zero_le _
  ·exact sects_len hf _ _
theorem sects_rise (p:Plan) (ap:Int) (st:Nat × Nat):(sects p ap st).Pairwise (·<·):=List.pairwise_lt_range.filter _
theorem total_from (p:Plan) (l:List Nat):∀ n,l.foldl (fun n s=>n+lenAt p s) n=n+total p l:=by
 unfold total
 induction l with
 | nil=>intro n;simp
 | cons s l ih =>
   intro n
   rw [List.foldl_cons,List.foldl_cons,ih,ih (0+lenAt p s)]
   omega
theorem total_cons (p:Plan) (s:Nat) (l:List Nat):total p (s :: l)=lenAt p s+total p l:=by
 rw [show total p (s :: l)=l.foldl (fun n s=>n+lenAt p s) (0+lenAt p s) from rfl,total_from]
 omega
theorem total_snoc (p:Plan) (l:List Nat) (s:Nat):total p (l++[s])=total p l+lenAt p s:=by
 unfold total
 rw [List.foldl_append]
 rfl
theorem total_bd {p:Plan} (hm:Lp.Meas p):∀ l:List Nat,0≤total p l∧total p l≤l.length * 1099511627776
 | []=>⟨Int.le_refl _,Int.le_refl _⟩
 | s :: l=>by
   have h1:=total_bd hm l
   have h2:=lenAt_bd hm s
   rw [total_cons,List.length_cons]
   refine ⟨by omega,?_⟩
   rw [Int.natCast_add,Int.add_mul]
   omega
theorem of_at {p:Plan} (hm:Lp.Meas p) {k:Nat} {g:Pl.Sig} (hg:p.sigs[k]? = some g):of p (k:Int)=(sects p p.ap (g.sec.toNat,g.en.toNat),total p (sects p p.ap (g.sec.toNat,g.en.toNat))):=by
 unfold of Cr.sigAt
 rw [if_neg (by omega),Int.toNat_natCast,hg]
 simp only
 split
 ·rename_i h
  rw [h,sects_none hm]
  rfl
 ·rfl
end Go.Proofs.YtncphjodaklleaaGreat.Nr
