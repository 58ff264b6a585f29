/- Lemmas. -/
import Derived.Test.YtjofpclmbjpgjaaGreatMk02
namespace Go.Proofs.YtjofpclmbjpgjaaGreat.Cr
open Go Pl Wk
theorem of_some {p:Plan} {i:Int} {g:Sig} (hg:sigAt p i=some g):of p i=ofSig p g:=by unfold of;rw[hg]
theorem of_none {p:Plan} {i:Int} (hg:sigAt p i=none):of p i=([],4):=by unfold of;rw[hg]
theorem oC (p:Plan) (g:Sig):((ofSig p g).2=10/\(ofSig p g).1=[])∨((ofSig p g).2=0/\(hunt p g).long=false/\(ofSig p g).1=(hunt p g).out):=by
 unfold ofSig
 cases h:(hunt p g).long with
 | true=>exact .inl ⟨rfl,rfl⟩
 | false=>exact .inr ⟨rfl,rfl,rfl⟩
theorem AfN (p:Plan) (g:Sig):(∀ w∈(hunt p g).out,(next p g.sec g.en).2.2=true/\w.steps.length<=16/\Chain p g.sec (next p g.sec g.en).1 (next p g.sec g.en).2.1 [] w.steps w.exit)/\(hunt p g).out.Pairwise Part:=by
 unfold hunt
 cases hn:(next p g.sec g.en).2.2 with
 | false=>exact⟨λw hw=>(by cases hw),.nil⟩
 | true =>
   rw[ArZ rfl]
   obtain⟨N,o,n,m⟩:=oB p g.sec 16 (next p g.sec g.en).1 (next p g.sec g.en).2.1 [] hunt0
   rw[show hunt0.out=[] from rfl,List.nil_append] at o
   rw[o]
   refine⟨λw hw=>⟨rfl,?_⟩,m⟩
   obtain⟨x,-,t,h1,h2,h3⟩:=n w hw
   rw[List.nil_append] at h1
   rw[h1]
   exact⟨by rw[AsJ];omega,h3⟩
theorem AjR (p:Plan) (g:Sig):(hunt p g).out.length<=65536:=by
 unfold hunt
 split
 ·have:=(enter_le p g.sec 16 (next p g.sec g.en).1 (next p g.sec g.en).2.1 [] hunt0).2
  rw[show hunt0.out.length=0 from rfl] at this
  omega
 exact AsD _
theorem of_len (p:Plan) (i:Int):(of p i).1.length<=65536:=by
 unfold of
 split
 ·exact AsD _
 rename_i g _
 rcases oC p g with ⟨-,h⟩|⟨-,-,h⟩
 ·rw[h];exact AsD _
 rw[h];exact AjR p g
theorem of_way {p:Plan} {g:Sig} {w:Way} (hw:w∈(ofSig p g).1):(ofSig p g).2=0/\(next p g.sec g.en).2.2=true/\w.steps.length<=16/\Chain p g.sec (next p g.sec g.en).1 (next p g.sec g.en).2.1 [] w.steps w.exit:=by
 rcases oC p g with ⟨-,h⟩|⟨h0,-,h⟩
 ·rw[h] at hw;cases hw
 rw[h] at hw
 exact⟨h0,(AfN p g).1 w hw⟩
theorem of_steps {p:Plan} {i:Int} {w:Way} (hw:w∈(of p i).1):w.steps.length<=16:=by
 unfold of at hw
 split at hw
 ·cases hw
 exact(of_way hw).2.2.1
def Reach (p:Plan) (b:Int) (w:Way) (k:Nat) (at_ en:Int):Prop :=
 (k < w.steps.length/\(next p at_ en).2.2=true/\Chain p b (next p at_ en).1 (next p at_ en).2.1 (w.steps.take k) (w.steps.drop k) w.exit) ∨
  (k=w.steps.length/\(0<=signal p at_ en∨(next p at_ en).2.2=false)/\w.exit=signal p at_ en)
theorem gX {p:Plan} {b s f:Int} {st t:List Stp} {e:Int} (h:Chain p b s f st t e):0<t.length:=by
 cases t with
 | nil=>unfold Chain at h;exact h.elim
 | cons x t=>exact Nat.succ_pos _
theorem lasts_false {p:Plan} {s:Int} {x:Stp} (h:lasts p s x=false):signal p s x.t<0/\(next p s x.t).2.2=true:=by
 unfold lasts at h
 rw[Bool.or_eq_false_iff] at h
 exact⟨by have:=of_decide_eq_false h.1;omega,by simpa using h.2⟩
theorem lasts_true {p:Plan} {s:Int} {x:Stp} (h:lasts p s x=true):0<=signal p s x.t∨(next p s x.t).2.2=false:=by
 unfold lasts at h
 rw[Bool.or_eq_true] at h
 rcases h with h|h
 ·exact .inl (of_decide_eq_true h)
 exact .inr (by simpa using h)
end Go.Proofs.YtjofpclmbjpgjaaGreat.Cr
namespace Go.Proofs.YtjofpclmbjpgjaaGreat.Lp
open Go Pl Wk
def secLen (p:Plan) (s:Int):Int:=match secAt p s with|none=>0|some x=>x.len
def len (p:Plan):List Stp->Int
 | []=>0
 | x :: l=>secLen p x.s+len p l
theorem oD (p:Plan):∀ (l m:List Stp),len p (l++m)=len p l+len p m
 | [],m=>by rw[List.nil_append];show _=0+_;omega
 | x :: l,m=>by
   show secLen p x.s+len p (l++m)=secLen p x.s+len p l+len p m
   rw[oD p l m];omega
theorem len_snoc (p:Plan) (l:List Stp) (x:Stp):len p (l++[x])=len p l+secLen p x.s:=by
 rw[oD]
 show _+(secLen p x.s+0)=_
 omega
def bars (b:Int) (way st:List Stp) (s:Int):Bool:=decide (s=b) || (within way s || within st s)
def lasts (p:Plan) (sum s:Int) (x:Stp):Bool:=!(next p s x.t).2.2 || decide (p.ov<=sum)
def seek (p:Plan) (go:Int->Int->List Stp->Nat->Option (List Stp) × Nat) (s sum:Int) (st:List Stp):List Stp->Nat->Option (List Stp) × Nat
 | [],n=>(none,n)
 | x :: l,n=>if lasts p sum s x then(some (st++[x]),n) else
     match go (next p s x.t).1 (next p s x.t).2.1 (st++[x]) n with
     | (some r,m)=>(some r,m)
     | (none,m)=>seek p go s sum st l m
def enter (p:Plan) (b:Int) (way:List Stp):Nat->Int->Int->List Stp->Int->Nat->Option (List Stp) × Nat
 | 0,_,_,_,_,n=>(none,n+1)
 | k + 1,s,f,st,sum,n=>if decide (400<n+1) || bars b way st s then(none,n+1) else
     seek p (λs' f' st' n'=>enter p b way k s' f' st' (sum+secLen p s) n') s (sum+secLen p s) st (outs p s f) (n+1)
def hunt (p:Plan) (b:Int) (way:List Stp) (x:Sig):Option (List Stp) × Nat:=enter p b way 16 (next p x.sec x.en).1 (next p x.sec x.en).2.1 [] 0 0
def ofSig (p:Plan) (b:Int) (way:List Stp) (x:Sig):List Stp × Int :=
 if (next p x.sec x.en).2.2 then(if 400<(hunt p b way x).2 then([],10) else((hunt p b way x).1.getD [],0)) else([],0)
def of (p:Plan) (i:Int) (w:Cr.Way):List Stp × Int :=
 match Cr.sigAt p i with
 | none=>([],4)
 | some g=>if (p.sigs.length:Int)<=w.exit then([],4) else if w.exit<0∨p.ov=0 then([],0) else
  match Cr.sigAt p w.exit with
  | none=>([],4)
  | some x=>ofSig p g.sec w.steps x
def Chain (p:Plan) (b:Int) (way:List Stp):Int->Int->List Stp->Int->List Stp->Prop
 | _,_,_,_,[]=>False
 | s, f,st,sum,x :: t=>(s≠b/\within way s=false/\within st s=false/\x∈outs p s f) /\
  ((lasts p (sum+secLen p s) s x=true/\t=[])∨(lasts p (sum+secLen p s) s x=false/\Chain p b way (next p s x.t).1 (next p s x.t).2.1 (st++[x]) (sum+secLen p s) t))
theorem bars_false {b s:Int} {way st:List Stp} (h:bars b way st s=false):s≠b/\within way s=false/\within st s=false:=by
 unfold bars at h
 rw[Bool.or_eq_false_iff,Bool.or_eq_false_iff] at h
 exact⟨of_decide_eq_false h.1,h.2.1,h.2.2⟩
theorem oE {p:Plan} {go:Int->Int->List Stp->Nat->Option (List Stp) × Nat} {s sum:Int} {st:List Stp} {Q:Stp->List Stp->Prop} :
 ∀ (l:List Stp) (n:Nat) {r:List Stp} {m:Nat},(∀ x∈l,lasts p sum s x=true->Q x [])->(∀ x∈l,lasts p sum s x=false->∀ n r m,go (next p s x.t).1 (next p s x.t).2.1 (st++[x]) n=(some r,m)->∃ t,r=st++x :: t/\Q x t)->seek p go s sum st l n=(some r,m)->∃ x t,r=st++x :: t/\Q x t
 | [],n,r,m,_,_,h=>by unfold seek at h;cases h
 | x :: l,n,r,m,h1,h2,h=>by
   unfold seek at h
   cases hl:lasts p sum s x with
   | true =>
     rw[hl,ArZ rfl] at h
     cases h
     exact⟨x,[],rfl,h1 x (List.mem_cons_self ..) hl⟩
   | false =>
     rw[hl,ArY (by decide)] at h
     split at h
     ·rename_i r' m' hg
      cases h
      obtain⟨t,ht,hq⟩:=h2 x (List.mem_cons_self ..) hl n _ _ hg
      exact⟨x,t,ht,hq⟩
     exact oE l _ (λy hy=>h1 y (List.mem_cons_of_mem _ hy)) (λy hy=>h2 y (List.mem_cons_of_mem _ hy)) h
theorem lR (p:Plan) (b:Int) (way:List Stp):∀ (k:Nat) (s f:Int) (st:List Stp) (sum:Int) (n:Nat) {r:List Stp} {m:Nat},enter p b way k s f st sum n=(some r,m)->∃ t,r=st++t/\t.length<=k/\Chain p b way s f st sum t
 | 0,s,f,st,sum,n,r,m,h=>by unfold enter at h;cases h
 | k + 1,s,f,st,sum,n,r,m,h=>by
   unfold enter at h
   split at h
   ·cases h
   rename_i hb
   rw[Bool.not_eq_true,Bool.or_eq_false_iff] at hb
   obtain⟨b1,b2,b3⟩:=bars_false hb.2
   obtain⟨x,t,ht,hx,hl,hc⟩:=oE (Q:=λx t=>x∈outs p s f/\t.length<=k/\((lasts p (sum+secLen p s) s x=true/\t=[])∨(lasts p (sum+secLen p s) s x=false/\Chain p b way (next p s x.t).1 (next p s x.t).2.1 (st++[x]) (sum+secLen p s) t))) (outs p s f) (n+1)
    (λx hx hl=>⟨hx,AsD _,.inl ⟨hl,rfl⟩⟩)
    (λx hx hl n r m hg=>by
     obtain⟨t,ht,h1,h2⟩:=lR p b way k _ _ _ _ _ hg
     exact⟨t,by rw[ht,List.append_assoc];rfl,hx,h1,.inr ⟨hl,h2⟩⟩) h
   exact⟨x :: t,ht,by rw[AsJ];omega,⟨b1,b2,b3,hx⟩,hc⟩
theorem tB {p:Plan} {go:Int->Int->List Stp->Nat->Option (List Stp) × Nat} {s sum:Int} {st:List Stp} {B:Nat} (hg:∀ s f st n,n<=(go s f st n).2/\(go s f st n).2<=n+B) :
 ∀ (l:List Stp) (n:Nat),n<=(seek p go s sum st l n).2/\(seek p go s sum st l n).2<=n+l.length*B
 | [],n=>by unfold seek;exact⟨ArR _,Nat.le_add_right _ _⟩
 | x :: l,n=>by
   unfold seek
   rw[AsJ,Nat.succ_mul]
   cases hl:lasts p sum s x with
   | true =>
     rw[ArZ rfl]
     exact⟨ArR _,Nat.le_add_right _ _⟩
   | false =>
     rw[ArY (by decide)]
     have h1:=hg (next p s x.t).1 (next p s x.t).2.1 (st++[x]) n
     split
     ·rename_i r m hq
      rw[hq] at h1
      exact⟨h1.1,by simp only at h1 ⊢;omega⟩
     rename_i m hq
     rw[hq] at h1
     have h2:=tB (p:=p) (s:=s) (sum:=sum) (st:=st) hg l m
     simp only at h1
     omega
theorem enter_le (p:Plan) (b:Int) (way:List Stp):∀ (k:Nat) (s f:Int) (st:List Stp) (sum:Int) (n:Nat),n<(enter p b way k s f st sum n).2/\(enter p b way k s f st sum n).2<=n+(2 ^ (k+1)-1)
 | 0,s,f,st,sum,n=>by unfold enter;exact⟨Nat.lt_succ_self _,by simp⟩
 | k+1,s,f,st,sum,n=>by
   have hp:1<=2 ^ k:=Nat.one_le_two_pow
   have e1:2 ^ (k+1)=2*2 ^ k:=by rw[Nat.pow_succ,Nat.mul_comm]
   have e2:2 ^ (k+1+1)=2*2 ^ (k+1):=by rw[Nat.pow_succ,Nat.mul_comm]
   unfold enter
   split
   ·exact⟨Nat.lt_succ_self _,by simp only;omega⟩
   have h:=tB (p:=p) (go:=λs' f' st' n'=>enter p b way k s' f' st' (sum+secLen p s) n') (s:=s) (sum:=sum+secLen p s) (st:=st) (B:=2 ^ (k+1)-1) (λs' f' st' n'=>⟨Nat.le_of_lt (enter_le p b way k s' f' st' _ n').1,(enter_le p b way k s' f' st' _ n').2⟩) (outs p s f) (n+1)
   have q1:(outs p s f).length*(2 ^ (k+1)-1)<=2*(2 ^ (k+1)-1):=Nat.mul_le_mul_right _ (outs_len p s f)
   omega
structure Meas (p:Plan):Prop where
 ov:0<=p.ov/\p.ov<=1125899906842624
 len:∀ (i:Nat) (s:Sec),p.secs[i]?=some s->0<=s.len/\s.len<=1099511627776
 sig:∀ (i:Nat) (s:Sec),p.secs[i]?=some s->∀ e,e<3->-1<=(s.get e).sig/\(s.get e).sig<p.sigs.length
theorem parseN_le {d:List UInt8} {m:Int} (h:Fig.parseB d m=true):Fig.parseN d m<=m:=by
 unfold Fig.parseN
 rw[ArZ h]
 unfold Fig.parseB at h
 rw[AsF] at h
 exact of_decide_eq_true h.2
theorem nE (k:Int):It.most k<=1099511627776:=by
 unfold It.most
 split
 ·exact Int.le_refl _
 split
 ·exact Int.le_refl _
 split
 ·decide
 split
 ·decide
 exact Int.le_refl _
theorem wC {l:List UInt8} {x:It.Itm} (h:It.parse l=some x):x.n<=1099511627776:=by
 unfold It.parse at h
 split at h
 ·cases hw : Ln.words l with
  | nil=>rw[hw] at h;cases h
  | cons a t =>
    rw[hw] at h
    unfold It.parseW at h
    simp only at h
    generalize It.kind a=k at h
    unfold It.parseK at h
    split at h
    ·split at h
     ·split at h
      ·rename_i hb
       cases h
       exact Int.le_trans (parseN_le hb) (nE k)
      cases h
     cases h
    split at h
    ·split at h
     ·split at h
      ·rename_i hb
       cases h
       simp only[AsF] at hb
       exact parseN_le hb.1.2
      cases h
     cases h
    split at h
    ·split at h
     ·split at h
      ·cases h;exact(by decide:(0:Int)<=1099511627776)
      cases h
     cases h
    split at h
    ·split at h
     ·split at h
      ·cases h;exact(by decide:(0:Int)<=1099511627776)
      cases h
     cases h
    split at h
    ·split at h
     ·split at h
      ·cases h;exact(by decide:(0:Int)<=1099511627776)
      cases h
     cases h
    cases h
 cases h
theorem right_le {x:It.Itm} (h:It.right x=true):0<=x.n/\x.n<=1099511627776:=by
 unfold It.right at h
 rw[AsF] at h
 exact⟨of_decide_eq_true h.1,wC (of_decide_eq_true h.2)⟩
theorem num_le {L:List It.Itm} (hL:Ok L) (k:Int):0<=num L k/\num L k<=1099511627776:=by
 unfold num
 cases h:L.find? (λx=>decide (x.k=k)) with
 | none=>exact⟨Int.le_refl _,by decide⟩
 | some x=>exact right_le (hL.right x (List.mem_of_find?_eq_some h))
theorem meas_fin {L:List It.Itm} (hL:Ok L) (hS:Pl.Shut L):Meas (fin L) where
 ov := by
  have h:=num_le hL 1
  show 0<=num L 1/\num L 1<=1125899906842624
  omega
 len i s hs:=by
  obtain⟨x,-,hx,-,-,rfl⟩:=nB hL hs
  exact right_le (hL.right x (mem_secs.1 hx).1)
 sig i s hs e he:=by
  rcases qR hL hS hs he with h|⟨_,-,-,-,-,-,-,-,h⟩|⟨_,_,_,_,-,-,-,-,-,-,-,-,-,-,h|⟨k,g,hg,h,-,-⟩⟩
  ·rw[h];exact⟨by decide,by show (-1:Int)<_;omega⟩
  ·rw[h];exact⟨by decide,by omega⟩
  ·rw[h];exact⟨by decide,by omega⟩
  rw[h]
  have:=(ArM hg).1
  exact⟨by omega,by omega⟩
theorem secLen_bd {p:Plan} (hm:Meas p) (s:Int):0<=secLen p s/\secLen p s<=1099511627776:=by
 unfold secLen secAt
 split
 ·exact⟨Int.le_refl _,by decide⟩
 rename_i x h
 split at h
 ·cases h
 exact hm.len _ _ h
theorem len_bd {p:Plan} (hm:Meas p):∀ (l:List Stp),0<=len p l/\len p l<=l.length*1099511627776
 | []=>⟨Int.le_refl _,by show (0:Int)<=_;simp⟩
 | x :: l=>by
   have h1:=len_bd hm l
   have h2:=secLen_bd hm x.s
   rw[AsJ]
   show 0<=secLen p x.s+len p l/\secLen p x.s+len p l<=_
   omega
theorem endOf_some {p:Plan} {s e:Int} {x:En} (h:endOf p s e=some x):∃ (i k:Nat) (y:Sec),s=i/\e=k/\k<3/\p.secs[i]?=some y/\x=y.get k:=by
 unfold endOf at h
 rcases sec_ways p s with ⟨-,h1⟩|⟨i,rfl,⟨-,h1⟩|⟨y,hy,h1⟩⟩
 ·rw[h1] at h;cases h
 ·rw[h1] at h;cases h
 rw[h1] at h
 simp only at h
 split at h
 ·rename_i hi
  have:=AjQ hi
  cases h
  exact⟨i,e.toNat,y,rfl,by omega,by omega,hy,rfl⟩
 cases h
theorem signal_bd {p:Plan} (hm:Meas p) (s e:Int):-1<=signal p s e/\signal p s e<p.sigs.length:=by
 unfold signal
 split
 ·exact⟨Int.le_refl _,by omega⟩
 rename_i x h
 obtain⟨i,k,y,-,-,hk,hy,rfl⟩:=endOf_some h
 exact hm.sig i y hy k hk
theorem next_in {p:Plan} (hf:Fit p) {s e:Int} (h:(next p s e).2.2=true):∃ (j f:Nat),(next p s e).1=j/\j<p.secs.length/\(next p s e).2.1=f/\f<3:=by
 unfold next at h ⊢
 split at h
 ·cases h
 rename_i x hx
 split at h
 ·cases h
 rename_i h0
 obtain⟨i,k,y,-,-,hk,hy,rfl⟩:=endOf_some hx
 obtain⟨h1,h2,h3⟩:=hf.ends i y hy k hk
 have h4:=h3 (by omega)
 rw[ArY h0]
 exact⟨((y.get k).goes).toNat,((y.get k).at_).toNat,by simp only;omega,by omega,by simp only;omega,by omega⟩
theorem secLen_at {p:Plan} {i:Nat} {x:Sec} (h:p.secs[i]?=some x):secLen p (i:Int)=x.len:=by
 unfold secLen
 rw[secAt_some h]
theorem oF {p:Plan} {b:Int}:∀ {t:List Stp} {s f:Int} {st:List Stp} {e:Int},Cr.Chain p b s f st t e->∃ s' f',e=signal p s' f'
 | [],_,_,_,_,h=>by unfold Cr.Chain at h;exact h.elim
 | x :: t,s,f,st,e,h=>by
   unfold Cr.Chain at h
   rcases h.2 with ⟨-,-,h⟩|⟨-,h⟩
   ·exact⟨_,_,h⟩
   exact oF h
theorem way_exit {p:Plan} (hm:Meas p) {i:Int} {w:Cr.Way} (hw:w∈(Cr.of p i).1):-1<=w.exit/\w.exit<p.sigs.length:=by
 unfold Cr.of at hw
 split at hw
 ·cases hw
 obtain⟨-,-,-,h⟩:=Cr.of_way hw
 obtain⟨s',f',h⟩:=oF h
 rw[h]
 exact signal_bd hm s' f'
theorem gX {p:Plan} {b s f sum:Int} {way st t:List Stp} (h:Chain p b way s f st sum t):0<t.length:=by
 cases t with
 | nil=>unfold Chain at h;exact h.elim
 | cons x t=>exact Nat.succ_pos _
theorem ofSig_cases (p:Plan) (b:Int) (way:List Stp) (x:Sig):ofSig p b way x=([],10)∨ofSig p b way x=([],0)∨((hunt p b way x).2<=400/\∃ l,(hunt p b way x).1=some l/\ofSig p b way x=(l,0)/\(next p x.sec x.en).2.2=true/\l.length<=16/\Chain p b way (next p x.sec x.en).1 (next p x.sec x.en).2.1 [] 0 l):=by
 unfold ofSig
 split
 ·rename_i hn
  split
  ·exact .inl rfl
  rename_i h4
  cases hh:(hunt p b way x).1 with
  | none=>exact .inr (.inl rfl)
  | some l =>
    obtain⟨t,h1,h2,h3⟩:=lR p b way 16 (next p x.sec x.en).1 (next p x.sec x.en).2.1 [] 0 0 (r:=l) (m:=(hunt p b way x).2) (by rw[<-hh];rfl)
    rw[List.nil_append] at h1
    subst h1
    exact .inr (.inr ⟨by omega,l,rfl,rfl,hn,h2,h3⟩)
 exact .inr (.inl rfl)
theorem of_eq {p:Plan} {i:Int} {g:Sig} (hg:Cr.sigAt p i=some g) {w:Cr.Way} (hw:w.exit<p.sigs.length):(w.exit<0∨p.ov=0)/\of p i w=([],0)∨0<=w.exit/\p.ov≠0/\∃ x,Cr.sigAt p w.exit=some x/\of p i w=ofSig p g.sec w.steps x:=by
 unfold of
 rw[hg]
 simp only
 rw[ArY (by omega)]
 by_cases h:w.exit<0∨p.ov=0
 ·rw[ArZ h]
  exact .inl ⟨h,rfl⟩
 rw[ArY h]
 rcases Cr.sigAt_ways p w.exit with ⟨h1,-⟩|⟨k,hk,⟨h1,-⟩|⟨x,-,hx⟩⟩
 ·exact absurd (.inl h1) h
 ·omega
 rw[hk,hx]
 exact .inr ⟨by omega,λh'=>h (.inr h'),x,rfl,rfl⟩
theorem of_steps {p:Plan} {i:Int} {w:Cr.Way}:(of p i w).1.length<=16:=by
 unfold of
 split
 ·exact AsD _
 split
 ·exact AsD _
 split
 ·exact AsD _
 split
 ·exact AsD _
 rename_i g _ _ _ _ x _
 rcases ofSig_cases p g.sec w.steps x with h|h|⟨-,l,-,h,-,h2,-⟩
 ·rw[h];exact AsD _
 ·rw[h];exact AsD _
 rw[h];exact h2
def Reach (p:Plan) (b:Int) (way t:List Stp) (k:Nat) (at_ en:Int):Prop :=
 (k < t.length/\(next p at_ en).2.2=true/\len p (t.take k)<p.ov/\Chain p b way (next p at_ en).1 (next p at_ en).2.1 (t.take k) (len p (t.take k)) (t.drop k)) ∨
  (k=t.length/\((next p at_ en).2.2=false∨p.ov<=len p t)/\len p t-secLen p at_<p.ov)
theorem lasts_false {p:Plan} {sum s:Int} {x:Stp} (h:lasts p sum s x=false):(next p s x.t).2.2=true/\sum<p.ov:=by
 unfold lasts at h
 rw[Bool.or_eq_false_iff] at h
 exact⟨by simpa using h.1,by have:=of_decide_eq_false h.2;omega⟩
theorem lasts_true {p:Plan} {sum s:Int} {x:Stp} (h:lasts p sum s x=true):(next p s x.t).2.2=false∨p.ov<=sum:=by
 unfold lasts at h
 rw[Bool.or_eq_true] at h
 rcases h with h|h
 ·exact .inl (by simpa using h)
 exact .inr (of_decide_eq_true h)
theorem of_nought {p:Plan} {i:Int} {g:Sig} (hg:Cr.sigAt p i=some g) {w:Cr.Way} (hw:w.exit<p.sigs.length) (h:w.exit<0∨p.ov=0):of p i w=([],0):=by
 rcases of_eq hg hw with ⟨-,h'⟩|⟨h3,h1,-⟩
 ·exact h'
 rcases h with h|h
 ·omega
 exact absurd h h1
theorem chain_apart {p:Plan} {b:Int} {way:List Stp}:∀ {t:List Stp} {s f:Int} {st:List Stp} {sum:Int},Chain p b way s f st sum t->(t.map (·.s)).Nodup/\∀ x∈t,within st x.s=false
 | [],_,_,_,_,h=>by unfold Chain at h;exact h.elim
 | x :: t,s,f,st,sum,h=>by
   unfold Chain at h
   obtain⟨⟨-,-,h1,h2⟩,h3⟩:=h
   have hs:=Cr.outs_sec h2
   rw[<-hs] at h1
   rcases h3 with ⟨-,rfl⟩|⟨-,h3⟩
   ·refine⟨by simp,λy hy=>?_⟩
    rw[AsS] at hy
    rw[hy];exact h1
   obtain⟨k1,k2⟩:=chain_apart h3
   refine⟨?_,λy hy=>?_⟩
   ·rw[List.map_cons,List.nodup_cons]
    refine⟨λhm=>?_,k1⟩
    obtain⟨y,hy,he⟩:=List.mem_map.1 hm
    have:=k2 y hy
    unfold within at this
    rw[List.any_append,Bool.or_eq_false_iff] at this
    have h4:=this.2
    simp only[List.any_cons,List.any_nil,Bool.or_false,decide_eq_false_iff_not] at h4
    exact h4 he.symm
   rcases AsN.1 hy with rfl|hy
   ·exact h1
   have:=k2 y hy
   unfold within at this ⊢
   rw[List.any_append,Bool.or_eq_false_iff] at this
   exact this.1
end Go.Proofs.YtjofpclmbjpgjaaGreat.Lp
namespace Go.Proofs.YtjofpclmbjpgjaaGreat.Nr
open Go Pl Wk
def lenAt (p:Plan) (s:Nat):Int:=((p.secs[s]?).map Sec.len).getD 0
def Edge (p:Plan) (a b:Nat × Nat):Prop:=∃ from_:Nat,from_<3/\(∃ x∈outs p a.1 from_,x.t=(a.2:Int))/\next p a.1 from_=((b.1:Int),(b.2:Int),true)
inductive Reach (p:Plan) (st:Nat × Nat):Nat × Nat->Int->Prop
 | start:Reach p st st 0
 | step {a b:Nat × Nat} {n:Int}:Reach p st a n->Edge p a b->Reach p st b (n+lenAt p a.1)
def Got (p:Plan) (ap:Int) (st:Nat × Nat) (s:Nat):Prop:=∃ (e:Nat) (n:Int),e<3/\Reach p st (s,e) n/\n<ap
noncomputable def yes (P:Prop):Bool:=@decide P (Classical.propDecidable P)
theorem tC {P:Prop}:yes P=true ↔ P:=@AsC P (Classical.propDecidable P)
noncomputable def sects (p:Plan) (ap:Int) (st:Nat × Nat):List Nat:=(List.range p.secs.length).filter λs=>yes (Got p ap st s)
def total (p:Plan) (l:List Nat):Int:=l.foldl (λn s=>n+lenAt p s) 0
def at_ (T:List Int) (a:Nat × Nat):Int:=(T[3*a.1+a.2]?).getD (-1)
structure Sound (p:Plan) (ap:Int) (st:Nat × Nat) (T:List Int):Prop where
 len:T.length=3*p.secs.length
 least:∀ a:Nat × Nat,a.1<p.secs.length->a.2<3->at_ T a = -1∨(0<=at_ T a/\at_ T a<ap/\Reach p st a (at_ T a))
 first:at_ T st=0
def ClosedAt (p:Plan) (ap:Int) (T:List Int) (a:Nat × Nat):Prop:=0<=at_ T a->∀ b,Edge p a b->at_ T a+lenAt p a.1<ap->0<=at_ T b/\at_ T b<=at_ T a+lenAt p a.1
def Closed (p:Plan) (ap:Int) (T:List Int):Prop:=∀ a:Nat × Nat,a.1<p.secs.length->a.2<3->ClosedAt p ap T a
structure Done (p:Plan) (ap:Int) (st:Nat × Nat) (T:List Int):Prop extends Sound p ap st T where
 closed:Closed p ap T
theorem lenAt_bd {p:Plan} (hm:Lp.Meas p) (s:Nat):0<=lenAt p s/\lenAt p s<=1099511627776:=by
 unfold lenAt
 cases h:p.secs[s]? with
 | none=>exact⟨by decide,by decide⟩
 | some x=>exact hm.len s x h
theorem Reach.nonneg {p:Plan} (hm:Lp.Meas p) {st a:Nat × Nat} {n:Int} (h:Reach p st a n):0<=n:=by
 induction h with
 | start=>exact Int.le_refl _
 | @step a _ _ _ _ ih=>have:=(lenAt_bd hm a.1).1;omega
theorem edge_in {p:Plan} (hf:Fit p) {a b:Nat × Nat} (h:Edge p a b):b.1<p.secs.length/\b.2<3:=by
 obtain⟨k,hk,-,hn⟩:=h
 have hd:(Wk.next p (a.1:Int) (k:Int))=((b.1:Int),(b.2:Int),true):=hn
 unfold Wk.next at hd
 split at hd
 ·exact absurd (congrArg (λx=>x.2.2) hd) (by simp)
 rename_i x hx
 split at hd
 ·exact absurd (congrArg (λx=>x.2.2) hd) (by simp)
 rename_i hg
 unfold endOf at hx
 split at hx
 ·cases hx
 rename_i y hy
 split at hx
 ·rename_i hend
  have hyk:p.secs[a.1]?=some y:=by
   unfold secAt at hy
   rw[ArY (by omega),AsP] at hy
   exact hy
  cases hx
  rw[AsP] at hd hg
  have h1:=hf.ends a.1 y hyk k hk
  simp only[Prod.mk.injEq] at hd
  obtain⟨e1,e2,-⟩:=hd
  have h2:=h1.2.2 (by omega)
  omega
 cases hx
theorem qV {p:Plan} {a b:Nat × Nat} (h:Edge p a b):a.1<p.secs.length:=by
 obtain⟨k,-,⟨x,hx,-⟩,-⟩:=h
 rcases Nat.lt_or_ge a.1 p.secs.length with h|h
 ·exact h
 unfold outs at hx
 rw[qT h] at hx
 cases hx
theorem AnJ {p:Plan} {a b:Nat × Nat} (h:Edge p a b):a.2<3:=by
 obtain⟨k,-,⟨x,hx,ht⟩,-⟩:=h
 have h2:x.t=1∨x.t=2∨x.t=0∨x.t=1-(k:Int):=by
  unfold outs at hx
  split at hx
  ·cases hx
  split at hx
  ·split at hx
   ·simp only[AsN,List.not_mem_nil,or_false] at hx
    rcases hx with rfl|rfl
    ·exact .inl rfl
    exact .inr (.inl rfl)
   split at hx
   ·simp only[AsN,List.not_mem_nil,or_false] at hx
    rw[hx]
    exact .inr (.inr (.inl rfl))
   cases hx
  split at hx
  ·simp only[AsN,List.not_mem_nil,or_false] at hx
   rw[hx]
   exact .inr (.inr (.inr rfl))
  cases hx
 omega
theorem Reach.in_ {p:Plan} (hf:Fit p) {st a:Nat × Nat} {n:Int} (hst:st.1<p.secs.length/\st.2<3) (h:Reach p st a n):a.1<p.secs.length/\a.2<3:=by
 cases h with
 | start=>exact hst
 | step _ he=>exact edge_in hf he
theorem Done.le {p:Plan} (hm:Lp.Meas p) {ap:Int} {st:Nat × Nat} {T:List Int} (hd:Done p ap st T) {a:Nat × Nat} {n:Int} (h:Reach p st a n) (hn:n<ap):0<=at_ T a/\at_ T a<=n:=by
 induction h with
 | start=>rw[hd.first];exact⟨Int.le_refl _,Int.le_refl _⟩
 | @step a b n hr he ih =>
   have hl:=(lenAt_bd hm a.1).1
   obtain⟨h1,h2⟩:=ih (by omega)
   obtain⟨h3,h4⟩:=hd.closed a (qV he) (AnJ he) h1 b he (by omega)
   exact⟨h3,by omega⟩
def told (T:List Int) (s:Nat):Bool:=decide (0<=max (at_ T (s,0)) (max (at_ T (s,1)) (at_ T (s,2))))
theorem AjS {p:Plan} (hm:Lp.Meas p) {ap:Int} {st:Nat × Nat} {T:List Int} (hd:Done p ap st T) {s:Nat} (hs:s<p.secs.length):told T s=true ↔ Got p ap st s:=by
 have one:∀ e,e<3->(0<=at_ T (s,e) ↔ ∃ n,Reach p st (s,e) n/\n<ap):=λe he=>by
  constructor
  ·intro h
   rcases hd.least (s,e) hs he with h2|⟨_,h3,h4⟩
   ·omega
   exact⟨_,h4,h3⟩
  rintro⟨n,h1,h2⟩
  exact(hd.le hm h1 h2).1
 have h0:=one 0 (by decide)
 have h1:=one 1 (by decide)
 have h2:=one 2 (by decide)
 unfold told
 rw[decide_eq_true_eq]
 constructor
 ·intro h
  by_cases g0:0<=at_ T (s,0)
  ·obtain⟨n,a,b⟩:=h0.1 g0
   exact⟨0,n,by decide,a,b⟩
  by_cases g1:0<=at_ T (s,1)
  ·obtain⟨n,a,b⟩:=h1.1 g1
   exact⟨1,n,by decide,a,b⟩
  obtain⟨n,a,b⟩:=h2.1 (by omega)
  exact⟨2,n,by decide,a,b⟩
 rintro⟨e,n,he,hr,hn⟩
 match e,he with
 | 0,_=>have:=h0.2 ⟨n,hr,hn⟩;omega
 | 1,_=>have:=h1.2 ⟨n,hr,hn⟩;omega
 | 2,_=>have:=h2.2 ⟨n,hr,hn⟩;omega
theorem told_sects {p:Plan} (hm:Lp.Meas p) {ap:Int} {st:Nat × Nat} {T:List Int} (hd:Done p ap st T):(List.range p.secs.length).filter (told T)=sects p ap st:=by
 unfold sects
 apply List.filter_congr
 intro s hs
 rw[Bool.eq_iff_iff,AjS hm hd (List.mem_range.1 hs),tC]
theorem ap_fin {L:List It.Itm} (hL:Pl.Ok L):0<=(fin L).ap/\(fin L).ap<=1099511627776:=by
 have h:=Lp.num_le hL 2
 show 0<=num L 2/\num L 2<=1099511627776
 omega
noncomputable def of (p:Plan) (i:Int):List Nat × Int :=
 match Cr.sigAt p i with
 | none=>([],0)
 | some g=>if p.ap=0 then([],0) else(sects p p.ap (g.sec.toNat,g.en.toNat),total p (sects p p.ap (g.sec.toNat,g.en.toNat)))
def far (p:Plan) (n:Int):Plan:={ p with ap:=n }
theorem mem_sects {p:Plan} {ap:Int} {st:Nat × Nat} {s:Nat}:s∈sects p ap st ↔ s<p.secs.length/\Got p ap st s:=by
 unfold sects
 rw[List.mem_filter,List.mem_range,tC]
theorem AaJ {p:Plan} (hm:Lp.Meas p) {st:Nat × Nat}:sects p 0 st=[]:=by
 apply List.eq_nil_iff_forall_not_mem.2
 intro s hs
 obtain⟨-,e,n,-,hr,hn⟩:=mem_sects.1 hs
 have:=hr.nonneg hm
 omega
theorem AfO {p:Plan} (hf:Fit p) (ap:Int) (st:Nat × Nat):(sects p ap st).length<=24:=by
 unfold sects
 have:=List.length_filter_le (λs=>yes (Got p ap st s)) (List.range p.secs.length)
 rw[List.length_range] at this
 have:=hf.few
 omega
theorem of_len {p:Plan} (hf:Fit p) {i:Int}:(of p i).1.length<=24:=by
 unfold of
 split
 ·exact AsD _
 split
 ·exact AsD _
 exact AfO hf _ _
theorem sects_rise (p:Plan) (ap:Int) (st:Nat × Nat):(sects p ap st).Pairwise (·<·):=List.pairwise_lt_range.filter _
theorem AaK (p:Plan) (l:List Nat):∀ n,l.foldl (λn s=>n+lenAt p s) n=n+total p l:=by
 unfold total
 induction l with
 | nil=>intro n;simp
 | cons s l ih =>
   intro n
   rw[List.foldl_cons,List.foldl_cons,ih,ih (0+lenAt p s)]
   omega
theorem AaL (p:Plan) (s:Nat) (l:List Nat):total p (s :: l)=lenAt p s+total p l:=by
 rw[show total p (s :: l)=l.foldl (λn s=>n+lenAt p s) (0+lenAt p s) from rfl,AaK]
 omega
theorem total_snoc (p:Plan) (l:List Nat) (s:Nat):total p (l++[s])=total p l+lenAt p s:=by
 unfold total
 rw[List.foldl_append]
 rfl
theorem total_bd {p:Plan} (hm:Lp.Meas p):∀ l:List Nat,0<=total p l/\total p l<=l.length*1099511627776
 | []=>⟨Int.le_refl _,Int.le_refl _⟩
 | s :: l=>by
   have h1:=total_bd hm l
   have h2:=lenAt_bd hm s
   rw[AaL,AsJ]
   refine⟨by omega,?_⟩
   rw[Int.natCast_add,Int.add_mul]
   omega
theorem of_at {p:Plan} (hm:Lp.Meas p) {k:Nat} {g:Pl.Sig} (hg:p.sigs[k]?=some g):of p (k:Int)=(sects p p.ap (g.sec.toNat,g.en.toNat),total p (sects p p.ap (g.sec.toNat,g.en.toNat))):=by
 unfold of Cr.sigAt
 rw[ArY (by omega),AsP,hg]
 simp only
 split
 ·rename_i h
  rw[h,AaJ hm]
  rfl
 rfl
end Go.Proofs.YtjofpclmbjpgjaaGreat.Nr
namespace Go.Proofs.YtjofpclmbjpgjaaGreat.Dm
open Go Pl Wk
structure Dem where
 pt:Int
 pos:Int
deriving DecidableEq
def posOf (l:List Dem) (k:Int):Int:=((l.find? λx=>decide (x.pt=k)).map Dem.pos).getD 0
def low (k:Int) (x:Dem):Bool:=decide (x.pt<k)
def put (l:List Dem) (x:Dem):List Dem:=if posOf l x.pt≠0 then l else l.takeWhile (low x.pt)++x :: l.dropWhile (low x.pt)
def opposed (a b:List Dem):Bool:=a.any λx=>decide (posOf b x.pt≠0) && decide (posOf b x.pt≠x.pos)
def ofSteps (p:Plan) (l:List Stp):List Dem:=l.foldl (λout x=>if 0<position p x then put out ⟨x.s,position p x⟩ else out) []
structure Good (l:List Dem):Prop where
 rise:l.Pairwise λx y=>x.pt<y.pt
 some_:∀ x∈l,x.pos≠0
theorem Good.nil:Good []:=⟨.nil,λ_ h=>(by cases h)⟩
theorem posOf_cons (x:Dem) (l:List Dem) (k:Int):posOf (x :: l) k=if x.pt=k then x.pos else posOf l k:=by
 unfold posOf
 rw[List.find?_cons]
 by_cases h:x.pt=k
 ·rw[decide_eq_true h,ArZ h];rfl
 rw[decide_eq_false h,ArY h]
theorem AaM {l:List Dem} {k:Int} (h:∀ x∈l,x.pt≠k):posOf l k=0:=by
 induction l with
 | nil=>rfl
 | cons x l ih =>
   rw[posOf_cons,ArY (h x (List.mem_cons_self ..))]
   exact ih λy hy=>h y (List.mem_cons_of_mem _ hy)
theorem AfP {l:List Dem} (h:l.Pairwise λx y=>x.pt<y.pt) {x:Dem} (hx:x∈l):posOf l x.pt=x.pos:=by
 induction l with
 | nil=>cases hx
 | cons y l ih =>
   obtain⟨h1,h2⟩:=List.pairwise_cons.1 h
   rw[posOf_cons]
   rcases AsN.1 hx with rfl|hx
   ·rw[ArZ rfl]
   have:=h1 x hx
   rw[ArY (by omega)]
   exact ih h2 hx
theorem Good.at {l:List Dem} (h:Good l) {x:Dem} (hx:x∈l):posOf l x.pt=x.pos/\posOf l x.pt≠0:=by
 have:=AfP h.rise hx
 exact⟨this,by rw[this];exact h.some_ x hx⟩
theorem Good.free {l:List Dem} (h:Good l) {k:Int} (hk:posOf l k=0):∀ x∈l,x.pt≠k:=λx hx e=>(h.at hx).2 (by rw[e];exact hk)
theorem jQ (a b:List Dem) (k:Int):posOf (a++b) k=if (∃ x∈a,x.pt=k) then posOf a k else posOf b k:=by
 induction a with
 | nil =>
   rw[List.nil_append,ArY]
   rintro⟨x,hx,-⟩
   cases hx
 | cons y a ih =>
   rw[List.cons_append,posOf_cons,posOf_cons,ih]
   by_cases hy:y.pt=k
   ·rw[ArZ hy,ArZ ⟨y,List.mem_cons_self ..,hy⟩,ArZ hy]
   rw[ArY hy]
   by_cases he:∃ x∈a,x.pt=k
   ·obtain⟨x,hx,hk⟩:=he
    rw[ArZ ⟨x,hx,hk⟩,ArZ ⟨x,List.mem_cons_of_mem _ hx,hk⟩,ArY hy]
   rw[ArY he,ArY]
   rintro⟨x,hx,hk⟩
   rcases AsN.1 hx with rfl|hx
   ·exact hy hk
   exact he ⟨x,hx,hk⟩
theorem wD {k:Int}:∀ {l:List Dem},∀ x∈l.takeWhile (low k),x.pt<k
 | [],_,h=>by cases h
 | y :: l,x,h=>by
   rw[List.takeWhile_cons] at h
   split at h
   ·rename_i hy
    rcases AsN.1 h with rfl|h
    ·exact of_decide_eq_true hy
    exact wD x h
   cases h
theorem wE {k:Int}:∀ {l:List Dem},l.Pairwise (λx y=>x.pt<y.pt)->∀ x∈l.dropWhile (low k),k<=x.pt
 | [],_,_,h=>by cases h
 | y :: l,hp,x,h=>by
   obtain⟨h1,h2⟩:=List.pairwise_cons.1 hp
   rw[List.dropWhile_cons] at h
   split at h
   ·exact wE h2 x h
   rename_i hy
   have hy':¬ y.pt<k:=λe=>hy (decide_eq_true e)
   rcases AsN.1 h with rfl|h
   ·omega
   have:=h1 x h;omega
theorem Good.put {l:List Dem} (h:Good l) {x:Dem} (hx:x.pos≠0):Good (Dm.put l x):=by
 unfold Dm.put
 split
 ·exact h
 rename_i h0
 have hf:=h.free (Decidable.not_not.1 h0)
 have hl:l.takeWhile (low x.pt)++l.dropWhile (low x.pt)=l:=List.takeWhile_append_dropWhile
 have hr:=h.rise
 rw[<-hl] at hr
 obtain⟨r1,r2,r3⟩:=List.pairwise_append.1 hr
 refine⟨List.pairwise_append.2 ⟨r1,List.pairwise_cons.2 ⟨λy hy=>?_,r2⟩,λy hy z hz=>?_⟩,λy hy=>?_⟩
 ·have h1:=wE h.rise y hy
  have h2:=hf y (by rw[<-hl];exact List.mem_append_right _ hy)
  omega
 ·rcases AsN.1 hz with rfl|hz
  ·exact wD y hy
  exact r3 y hy z hz
 rcases ArW.1 hy with hy|hy
 ·exact h.some_ y (by rw[<-hl];exact List.mem_append_left _ hy)
 rcases AsN.1 hy with rfl|hy
 ·exact hx
 exact h.some_ y (by rw[<-hl];exact List.mem_append_right _ hy)
theorem Good.posOf_put {l:List Dem} (h:Good l) {x:Dem} (k:Int):posOf (Dm.put l x) k=if posOf l k≠0 then posOf l k else if k=x.pt then x.pos else 0:=by
 unfold Dm.put
 by_cases h0:posOf l x.pt≠0
 ·rw[ArZ h0]
  by_cases hk:posOf l k≠0
  ·rw[ArZ hk]
  rw[ArY hk]
  have hk0:posOf l k=0:=Decidable.not_not.1 hk
  rw[hk0,ArY]
  rintro rfl
  exact h0 hk0
 rw[ArY h0]
 have hf:=h.free (Decidable.not_not.1 h0)
 have hl:l.takeWhile (low x.pt)++l.dropWhile (low x.pt)=l:=List.takeWhile_append_dropWhile
 have hk:=jQ (l.takeWhile (low x.pt)) (l.dropWhile (low x.pt)) k
 rw[hl] at hk
 rw[jQ,posOf_cons,hk]
 by_cases he:∃ y∈l.takeWhile (low x.pt),y.pt=k
 ·rw[ArZ he,ArZ he]
  obtain⟨y,hy,hyk⟩:=he
  have hyl:y∈l:=by rw[<-hl];exact List.mem_append_left _ hy
  have h1:=h.at hyl
  have h2:posOf (l.takeWhile (low x.pt)) k=posOf l k:=by rw[hk,ArZ ⟨y,hy,hyk⟩]
  rw[h2,ArZ (by rw[<-hyk];exact h1.2)]
 rw[ArY he,ArY he]
 by_cases hkx:x.pt=k
 ·rw[ArZ hkx,ArY,ArZ hkx.symm]
  rw[Decidable.not_not]
  exact AaM λy hy e=>hf y (by rw[<-hl];exact List.mem_append_right _ hy) (by rw[e,hkx])
 rw[ArY hkx]
 by_cases hz:posOf (l.dropWhile (low x.pt)) k≠0
 ·rw[ArZ hz]
 rw[ArY hz,ArY (λe=>hkx e.symm)]
 exact Decidable.not_not.1 hz
end Go.Proofs.YtjofpclmbjpgjaaGreat.Dm
namespace Go.Proofs.YtjofpclmbjpgjaaGreat.Fl
open Go Pl Wk
structure G where
 pts:List Dm.Dem
 fl:List Int
 seen:List Int
def put (l:List Int) (n:Int):List Int:=if (l.dropWhile λx=>decide (x<n))[0]?=some n then l else(l.takeWhile λx=>decide (x<n))++n :: l.dropWhile λx=>decide (x<n)
def ends_ (p:Plan) (own:List Stp) (s e:Int) (g:G):Bool:=!(next p s e).2.2 || (within own (next p s e).1 || (g.seen.any (λx=>decide (x=(next p s e).1)) || decide (g.seen.length=8)))
def on (p:Plan) (own:List Stp):Nat->Int->Int->G->G
 | 0,_,_,g=>g
 | k+1,s,e,g =>
   if ends_ p own s e g then g
   else if 0<=signal p (next p s e).1 (next p s e).2.1 then { g with seen:=g.seen++[(next p s e).1],fl:=put g.fl (signal p (next p s e).1 (next p s e).2.1) }
   else if isPoint p (next p s e).1=false then on p own k (next p s e).1 (1-(next p s e).2.1) { g with seen:=g.seen++[(next p s e).1] }
   else if (next p s e).2.1=0 then on p own k (next p s e).1 2 (on p own k (next p s e).1 1 { g with seen:=g.seen++[(next p s e).1] })
   else if Dm.posOf g.pts (next p s e).1=(next p s e).2.1 then on p own k (next p s e).1 0 { g with seen:=g.seen++[(next p s e).1] }
   else if Dm.posOf g.pts (next p s e).1=0 then { g with seen:=g.seen++[(next p s e).1],pts:=Dm.put g.pts ⟨(next p s e).1,3-(next p s e).2.1⟩ }
   else { g with seen:=g.seen++[(next p s e).1] }
def one (p:Plan) (own:List Stp) (g:G) (x:Stp):G:=if 0<position p x then on p own 9 x.s (3-position p x) { g with seen:=[] } else g
def of (p:Plan) (own:List Stp):G:=own.foldl (one p own) ⟨Dm.ofSteps p own,[],[]⟩
theorem jR (l:List Int) (n:Int):(put l n).length<=l.length+1:=by
 unfold put
 split
 ·omega
 have h:(l.takeWhile λx=>decide (x<n))++l.dropWhile (λx=>decide (x<n))=l:=List.takeWhile_append_dropWhile
 have:=congrArg List.length h
 rw[ArV] at this
 rw[ArV,AsJ]
 omega
theorem ends_len {p:Plan} {own:List Stp} {s e:Int} {g:G} (h:ends_ p own s e g=false):g.seen.length≠8:=by
 unfold ends_ at h
 simp only[Bool.or_eq_false_iff] at h
 exact of_decide_eq_false h.2.2.2
theorem dm_put_len (L:List Dm.Dem) (x:Dm.Dem):(Dm.put L x).length<=L.length+1:=by
 unfold Dm.put
 split
 ·omega
 have h:L.takeWhile (Dm.low x.pt)++L.dropWhile (Dm.low x.pt)=L:=List.takeWhile_append_dropWhile
 have:=congrArg List.length h
 rw[ArV] at this
 rw[ArV,AsJ]
 omega
structure Adds (g h:G):Prop where
 more:g.seen.length<=h.seen.length
 most:g.seen.length<=8->h.seen.length<=8
 pts:h.pts.length+g.seen.length<=g.pts.length+h.seen.length
 fl:h.fl.length+g.seen.length<=g.fl.length+h.seen.length
theorem Adds.refl (g:G):Adds g g:=⟨ArR _,λh=>h,ArR _,ArR _⟩
theorem Adds.trans {f g h:G} (a:Adds f g) (b:Adds g h):Adds f h:=by
 obtain⟨a1,a2,a3,a4⟩:=a
 obtain⟨b1,b2,b3,b4⟩:=b
 exact⟨by omega,λh=>b2 (a2 h),by omega,by omega⟩
theorem Adds.see {g:G} (q:Int) (h8:g.seen.length≠8):Adds g { g with seen:=g.seen++[q] }:=by
 have e:(g.seen++[q]).length=g.seen.length+1:=by rw[ArV];rfl
 exact⟨by show _<=(g.seen++[q]).length;omega,λh=>by show (g.seen++[q]).length<=8;omega,by show g.pts.length+_<=_+(g.seen++[q]).length;omega,by show g.fl.length+_<=_+(g.seen++[q]).length;omega⟩
theorem on_adds (p:Plan) (own:List Stp):∀ (k:Nat) (s e:Int) (g:G),Adds g (on p own k s e g)
 | 0,_,_,g=>Adds.refl g
 | k + 1,s,e,g=>by
   unfold on
   by_cases h0:ends_ p own s e g=true
   ·rw[ArZ h0];exact Adds.refl g
   rw[ArY h0]
   have h8:=ends_len (Bool.eq_false_iff.2 h0)
   generalize hn:next p s e=w
   obtain⟨q,f,ok⟩:=w
   have hs:=Adds.see q h8
   have e1:(g.seen++[q]).length=g.seen.length+1:=by rw[ArV];rfl
   simp only
   split
   ·have:=jR g.fl (signal p q f)
    exact⟨hs.more,hs.most,hs.pts,by show (put _ _).length+_<=_+(g.seen++[q]).length;omega⟩
   split
   ·exact hs.trans (on_adds p own k _ _ _)
   split
   ·exact(hs.trans (on_adds p own k _ _ _)).trans (on_adds p own k _ _ _)
   split
   ·exact hs.trans (on_adds p own k _ _ _)
   split
   ·have:=dm_put_len g.pts ⟨q,3-f⟩
    exact⟨hs.more,hs.most,by show (Dm.put _ _).length+_<=_+(g.seen++[q]).length;omega,hs.fl⟩
   exact hs
structure Keeps (g h:G):Prop where
 good:Dm.Good g.pts->Dm.Good h.pts
 same:Dm.Good g.pts->∀ k,Dm.posOf g.pts k≠0->Dm.posOf h.pts k=Dm.posOf g.pts k
theorem Keeps.refl (g:G):Keeps g g:=⟨λh=>h,λ_ _ _=>rfl⟩
theorem Keeps.trans {f g h:G} (a:Keeps f g) (b:Keeps g h):Keeps f h :=
 ⟨λx=>b.good (a.good x),λx k hk=>by
  have h1:=a.same x k hk
  rw[b.same (a.good x) k (by rw[h1];exact hk),h1]⟩
theorem Keeps.of_pts {g h:G} (e:h.pts=g.pts):Keeps g h:=⟨λx=>by rw[e];exact x,λ_ _ _=>by rw[e]⟩
theorem on_keeps (p:Plan) (own:List Stp):∀ (k:Nat) (s e:Int) (g:G),((next p s e).2.1=1∨(next p s e).2.1=2∨(next p s e).2.1=0)->(∀ s e,(next p s e).2.1=1∨(next p s e).2.1=2∨(next p s e).2.1=0)->Keeps g (on p own k s e g)
 | 0,_,_,g,_,_=>Keeps.refl g
 | k + 1,s,e,g,hf,hall=>by
   unfold on
   by_cases h0:ends_ p own s e g=true
   ·rw[ArZ h0];exact Keeps.refl g
   rw[ArY h0]
   generalize hn:next p s e=w at hf
   obtain⟨q,f,ok⟩:=w
   simp only at hf ⊢
   have hs:Keeps g { g with seen:=g.seen++[q] }:=Keeps.of_pts rfl
   split
   ·exact Keeps.of_pts rfl
   split
   ·exact hs.trans (on_keeps p own k _ _ _ (hall _ _) hall)
   split
   ·exact(hs.trans (on_keeps p own k _ _ _ (hall _ _) hall)).trans (on_keeps p own k _ _ _ (hall _ _) hall)
   split
   ·exact hs.trans (on_keeps p own k _ _ _ (hall _ _) hall)
   split
   ·rename_i hz
    have hne:(⟨q,3-f⟩:Dm.Dem).pos≠0:=by show 3-f≠0;omega
    refine⟨λx=>x.put hne,λx k hk=>?_⟩
    show Dm.posOf (Dm.put g.pts ⟨q,3-f⟩) k=_
    rw[x.posOf_put,ArZ hk]
   exact hs
theorem of_len (p:Plan) (own:List Stp):(of p own).pts.length<=(Dm.ofSteps p own).length+8*own.length/\(of p own).fl.length<=8*own.length:=by
 have h : ∀ (l:List Stp) (g:G),(l.foldl (one p own) g).pts.length<=g.pts.length+8*l.length/\(l.foldl (one p own) g).fl.length<=g.fl.length+8*l.length:=by
  intro l
  induction l with
  | nil=>intro g;exact⟨ArR _,ArR _⟩
  | cons x l ih =>
    intro g
    rw[List.foldl_cons,AsJ]
    have h1:=ih (one p own g x)
    have h2:(one p own g x).pts.length<=g.pts.length+8/\(one p own g x).fl.length<=g.fl.length+8:=by
     unfold one
     split
     ·have ha:=on_adds p own 9 x.s (3-position p x) { g with seen:=[] }
      have h3:=ha.most (AsD _)
      have h4:=ha.pts
      have h5:=ha.fl
      simp only[List.length_nil,Nat.add_zero] at h4 h5
      exact⟨by omega,by omega⟩
     exact⟨by omega,by omega⟩
    omega
 have:=h own ⟨Dm.ofSteps p own,[],[]⟩
 simp only[List.length_nil,Nat.zero_add] at this
 exact this
end Go.Proofs.YtjofpclmbjpgjaaGreat.Fl
