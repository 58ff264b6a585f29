/- Lemmas. -/
import Derived.Test.YtncphjodaklleaaGreatMh23
namespace Go.Proofs.YtncphjodaklleaaGreat.Tb
open Go Pl Wk
def rises (l:List Int):Bool:=ups (λi=>decide (l.getD (i-1) 0<l.getD i 0)) 1 l.length
def risesN (l:List Nm):Bool:=ups (λi=>decide (l.getD (i-1) []<l.getD i [])) 1 l.length
def isIn (x n:Int):Bool:=decide (0<=x) && decide (x<n)
def upTo (x n:Int):Bool:=decide (0<=x) && decide (x<=n)
theorem isIn_iff {x n:Int}:isIn x n=true ↔ 0<=x/\x<n:=by unfold isIn;rw[AsW,AsE,AsE]
theorem ups_over (f:Nat->Bool) {j n:Nat} (h:n<=j):ups f j n=true:=by
 unfold ups
 rw [Nat.sub_eq_zero_of_le h]
 rfl
theorem vA {α:Type} {l:List α} {q:α->Bool}:(!l.any λx=>!q x)=true ↔ ∀ x∈l,q x=true:=by
 rw [Bool.not_eq_true',List.any_eq_false]
 exact ⟨λh x hx=>by have:=h x hx;simpa using this,λh x hx=>by rw[h x hx];decide⟩
theorem all_at {α:Type} {l:List α} {p:α->Prop} (d:α):(∀ x∈l,p x) ↔ ∀ i,i<l.length->p (l.getD i d):=by
 constructor
 ·intro h i hi
  rw [getD_at (ArP hi)]
  exact h _ (List.getElem_mem hi)
 intro h x hx
 obtain ⟨i,hi,rfl⟩:=List.getElem_of_mem hx
 have:=h i hi
 rwa [getD_at (ArP hi)] at this
theorem mH (n:Nat) {p r:Nat->Prop}:(∀ i,0<=i->i<n->p i/\(i=0∨r i)) ↔ (∀ i,1<=i->i<n->r i)/\∀ i,i<n->p i :=
 ⟨λh=>⟨λi hi hn=>(h i (AsF _) hn).2.elim (λe=>by omega) id,λi hi=>(h i (AsF _) hi).1⟩,λh i _ hi=>⟨h.2 i hi,(Nat.eq_zero_or_pos i).imp id λh0=>h.1 i h0 hi⟩⟩
theorem places_eq (l:List Int) (n:Int):(rises l && !l.any λx=>!isIn x n)=risingOk l n:=by
 rw [Bool.eq_iff_iff,AsW,vA,all_at 0,rises,risingOk,cB,cB]
 simp only [AlV,isIn_iff,AsW,Bool.or_eq_true,AsE]
 exact (mH l.length (p:=λi=>0<=l.getD i 0/\l.getD i 0<n) (r:=λi=>l.getD (i-1) 0<l.getD i 0)).symm
theorem named_eq (l:List Nm):(risesN l && !l.any λx=>!Fig.nameB x)=namesOk l:=by
 rw [Bool.eq_iff_iff,AsW,vA,all_at [],risesN,namesOk,cB,cB]
 simp only [AlU,AsW,Bool.or_eq_true,AsE]
 exact (mH l.length (p:=λi=>Fig.nameB (l.getD i [])=true) (r:=λi=>l.getD (i-1) []<l.getD i [])).symm
def askedOk (pts:List Bool) (n:Int) (x:Dm.Dem):Bool:=isIn x.pt n && pts.getD x.pt.toNat false && ((x.pos == 1) || (x.pos == 2))
theorem asked_eq (pts:List Bool) (l:List Dm.Dem):(l.all (askedOk pts pts.length) && rises (l.map Dm.Dem.pt))=demandsOk pts l:=by
 have hm:∀ i,i<l.length->(l.map Dm.Dem.pt).getD i 0=(l.getD i dem0).pt:=λi hi=>by
  rw [getD_at (ArP hi),getD_at (x:=l[i].pt)]
  rw [List.getElem?_map,ArP hi];rfl
 rw [Bool.eq_iff_iff,AsW,List.all_eq_true,all_at dem0,rises,demandsOk,cB,cB,AtE]
 simp only [AlW,askedOk,isIn_iff,AsW,Bool.or_eq_true,AsE]
 constructor
 ·intro h i _ hi
  obtain ⟨⟨⟨h1,h2⟩,h3⟩,h4⟩:=h.1 i hi
  refine ⟨⟨⟨⟨h1,h2⟩,h3⟩,h4⟩,(Nat.eq_zero_or_pos i).imp id λh0=>?_⟩
  have:=h.2 i h0 hi
  rwa [hm i hi,hm (i-1) (by omega)] at this
 intro h
 refine ⟨λi hi=>?_,λi h0 hi=>?_⟩
 ·obtain ⟨⟨⟨⟨h1,h2⟩,h3⟩,h4⟩,-⟩:=h i (AsF _) hi
  exact ⟨⟨⟨h1,h2⟩,h3⟩,h4⟩
 rw [hm i hi,hm (i-1) (by omega)]
 exact (h i (AsF _) hi).2.elim (λe=>by omega) id
def throughOk (pt:Bool) (x:Stp):Bool:=(min x.f x.t == 0) && decide (0<max x.f x.t) && decide (max x.f x.t<=if pt=true then 2 else 1)
theorem AcL (pts:List Bool) (x:Stp):throughOk (pts.getD x.s.toNat false) x=pK pts x:=by
 unfold throughOk pK
 generalize pts.getD x.s.toNat false=z
 generalize max x.f x.t=k
 rw [Bool.eq_iff_iff]
 simp only [AsW,Bool.or_eq_true,AsE,beq_iff_eq]
 cases z
 ·simp only [Bool.false_eq_true,if_false,and_false,or_false]
  omega
 simp only [if_true,and_true]
 omega
def passOk (pts:List Bool) (l:List Stp) (i:Nat):Bool:=isIn (l.getD i stp0).s pts.length && !within (l.take i) (l.getD i stp0).s && throughOk (pts.getD (l.getD i stp0).s.toNat false) (l.getD i stp0)
def passes (pts:List Bool) (l:List Stp):Bool:=decide ((l.length:Int)<=16) && ups (passOk pts l) 0 l.length
theorem passes_eq (pts:List Bool) (l:List Stp):passes pts l=stepsOk pts l []:=by
 have h:passOk pts l=lI pts l []:=funext λi=>by
  unfold passOk lI isIn
  rw [AcL]
  show _=(_ && _ && _ && !false && _)
  rw [Bool.not_false,Bool.and_true]
 unfold passes stepsOk
 rw [h,Bool.and_comm]
theorem yP (pts:List Bool) (l o:List Stp):stepsOk pts l o=(stepsOk pts l [] && !o.any λx=>within l x.s):=by
 have hw:∀ (l:List Stp) (s:Int),within l s=true ↔ ∃ x∈l,x.s=s:=λl s=>by
  unfold within
  rw [List.any_eq_true]
  simp only [AsE]
 rw [Bool.eq_iff_iff,AsW,Bool.not_eq_true',List.any_eq_false]
 unfold stepsOk
 rw [AsW,AsW,cB,cB]
 have hn:∀ s,within [] s=false:=λ_=>rfl
 simp only [lI,AsW,hn,Bool.not_false,and_true,Bool.not_eq_true']
 constructor
 ·rintro ⟨h,h16⟩
  refine ⟨⟨λi h0 hi=>?_,h16⟩,λx hx=>?_⟩
  ·obtain ⟨⟨h1,-⟩,h2⟩:=h i h0 hi
   exact ⟨h1,h2⟩
  intro hwx
  obtain ⟨y,hy,hys⟩:=(hw _ _).1 hwx
  obtain ⟨i,hi,rfl⟩:=List.getElem_of_mem hy
  have:=(h i (AsF _) hi).1.2
  rw [getD_at (ArP hi),hys] at this
  rw [(hw o x.s).2 ⟨x,hx,rfl⟩] at this
  cases this
 rintro ⟨⟨h,h16⟩,ha⟩
 refine ⟨λi h0 hi=>?_,h16⟩
 obtain ⟨h1,h2⟩:=h i h0 hi
 refine ⟨⟨h1,?_⟩,h2⟩
 cases hz:within o (l.getD i stp0).s with
 | false=>rfl
 | true =>
   obtain ⟨y,hy,hys⟩:=(hw _ _).1 hz
   refine absurd ((hw _ _).2 ⟨l[i],List.getElem_mem hi,?_⟩) (ha y hy)
   rw [hys,getD_at (ArP hi)]
def possible (t:Table) (r:Rt.Route):Bool :=
 isIn r.entry t.sigs.length && ((r.exit == -1) || isIn r.exit t.sigs.length) && decide (0<(r.steps.length:Int)) && passes t.points r.steps && passes t.points r.lap && (!r.steps.any λx=>within r.lap x.s) && (r.pts.all (askedOk t.points t.points.length) && rises (r.pts.map Dm.Dem.pt)) &&
  asksOk t.points r.pts r.steps && asksOk t.points r.pts r.lap && (rises r.fl && !r.fl.any λx=>!isIn x t.sigs.length) && (rises r.near && !r.near.any λx=>!isIn x t.names.length) && upTo r.dist 281474976710655 && upTo r.timer 4294967295
theorem possible_eq (t:Table) (r:Rt.Route):possible t r=fits t r:=by
 unfold possible fits
 rw [asked_eq,places_eq,places_eq,passes_eq,passes_eq,yP t.points r.lap r.steps]
 generalize (!r.steps.any λx=>within r.lap x.s)=a1
 generalize stepsOk t.points r.steps []=a2
 generalize stepsOk t.points r.lap []=a3
 generalize demandsOk t.points r.pts=a4
 generalize asksOk t.points r.pts r.steps=a5
 generalize asksOk t.points r.pts r.lap=a6
 generalize risingOk r.fl _=a7
 generalize risingOk r.near _=a8
 rw [Bool.eq_iff_iff]
 unfold isIn upTo
 simp only [AsW,Bool.or_eq_true,AsE,beq_iff_eq]
 constructor
 ·rintro ⟨⟨⟨⟨⟨⟨⟨⟨⟨⟨⟨⟨h1,h2⟩,h3⟩,h4⟩,h5⟩,h6⟩,h7⟩,h8⟩,h9⟩,h10⟩,h11⟩,h12⟩,h13⟩
  refine ⟨⟨⟨⟨⟨⟨⟨⟨⟨⟨⟨⟨⟨⟨⟨h1.1,h1.2⟩,?_⟩,?_⟩,h3⟩,h4⟩,h5,h6⟩,h7⟩,h8⟩,h9⟩,h10⟩,h11⟩,h12.1⟩,?_⟩,h13.1⟩,?_⟩ <;> omega
 rintro ⟨⟨⟨⟨⟨⟨⟨⟨⟨⟨⟨⟨⟨⟨⟨h1,h1'⟩,h2⟩,h2'⟩,h3⟩,h4⟩,h5,h6⟩,h7⟩,h8⟩,h9⟩,h10⟩,h11⟩,h12⟩,h12'⟩,h13⟩,h13'⟩
 refine ⟨⟨⟨⟨⟨⟨⟨⟨⟨⟨⟨⟨⟨h1,h1'⟩,?_⟩,h3⟩,h4⟩,h5⟩,h6⟩,h7⟩,h8⟩,h9⟩,h10⟩,h11⟩,h12,?_⟩,h13,?_⟩ <;> omega
end Go.Proofs.YtncphjodaklleaaGreat.Tb
