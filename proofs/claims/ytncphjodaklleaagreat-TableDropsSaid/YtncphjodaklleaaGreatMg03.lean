/-
 Texts of this claim, merged: DmSpec, FlSpec.
-/
import Derived.Test.YtncphjodaklleaaGreatMg02
namespace Go.Proofs.YtncphjodaklleaaGreat.Dm
open Go Pl Wk
structure Dem where
 pt:Int
 pos:Int
deriving DecidableEq
def posOf (l:List Dem) (k:Int):Int:=((l.find? fun x=>decide (x.pt=k)).map Dem.pos).getD 0
def low (k:Int) (x:Dem):Bool:=decide (x.pt<k)
def put (l:List Dem) (x:Dem):List Dem:=if posOf l x.pt≠0 then l else l.takeWhile (low x.pt)++x :: l.dropWhile (low x.pt)
def opposed (a b:List Dem):Bool:=a.any fun x=>decide (posOf b x.pt≠0) && decide (posOf b x.pt≠x.pos)
def ofSteps (p:Plan) (l:List Stp):List Dem:=l.foldl (fun out x=>if 0<position p x then put out ⟨x.s,position p x⟩ else out) []
structure Good (l:List Dem):Prop where
 rise:l.Pairwise fun x y=>x.pt<y.pt
 some_:∀ x∈l,x.pos≠0
theorem Good.nil:Good []:=⟨.nil,fun _ h=>(by cases h)⟩
theorem posOf_cons (x:Dem) (l:List Dem) (k:Int):posOf (x :: l) k=if x.pt=k then x.pos else posOf l k:=by
 unfold posOf
 rw [List.find?_cons]
 by_cases h:x.pt=k
 ·rw[decide_eq_true h,if_pos h];rfl
 ·rw[decide_eq_false h,if_neg h]
theorem posOf_none {l:List Dem} {k:Int} (h:∀ x∈l,x.pt≠k):posOf l k=0:=by
 induction l with
 | nil=>rfl
 | cons x l ih =>
   rw [posOf_cons,if_neg (h x (List.mem_cons_self ..))]
   exact ih fun y hy=>h y (List.mem_cons_of_mem _ hy)
theorem posOf_mem {l:List Dem} (h:l.Pairwise fun x y=>x.pt<y.pt) {x:Dem} (hx:x∈l):posOf l x.pt=x.pos:=by
 induction l with
 | nil=>cases hx
 | cons y l ih =>
   obtain ⟨h1,h2⟩:=List.pairwise_cons.1 h
   rw [posOf_cons]
   rcases List.mem_cons.1 hx with rfl | hx
   ·rw[if_pos rfl]
   ·have:=h1 x hx
    rw [if_neg (by omega)]
    exact ih h2 hx
theorem Good.at {l:List Dem} (h:Good l) {x:Dem} (hx:x∈l):posOf l x.pt=x.pos∧posOf l x.pt≠0:=by
 have:=posOf_mem h.rise hx
 exact ⟨this,by rw[this];exact h.some_ x hx⟩
theorem Good.free {l:List Dem} (h:Good l) {k:Int} (hk:posOf l k=0):∀ x∈l,x.pt≠k:=fun x hx e=>(h.at hx).2 (by rw[e];exact hk)
theorem posOf_append (a b:List Dem) (k:Int):posOf (a++b) k=if (∃ x∈a,x.pt=k) then posOf a k else posOf b k:=by
 induction a with
 | nil =>
   rw [List.nil_append,if_neg]
   rintro ⟨x,hx,-⟩
   cases hx
 | cons y a ih =>
   rw [List.cons_append,posOf_cons,posOf_cons,ih]
   by_cases hy:y.pt=k
   ·rw[if_pos hy,if_pos ⟨y,List.mem_cons_self ..,hy⟩,if_pos hy]
   ·rw [if_neg hy]
    by_cases he:∃ x∈a,x.pt=k
    ·obtain ⟨x,hx,hk⟩:=he
     rw [if_pos ⟨x,hx,hk⟩,if_pos ⟨x,List.mem_cons_of_mem _ hx,hk⟩,if_neg hy]
    ·rw [if_neg he,if_neg]
     rintro ⟨x,hx,hk⟩
     rcases List.mem_cons.1 hx with rfl | hx
     ·exact hy hk
     ·exact he ⟨x,hx,hk⟩
theorem low_take {k:Int}:∀ {l:List Dem},∀ x∈l.takeWhile (low k),x.pt<k
 | [],_,h=>by cases h
 | y :: l,x,h=>by
   rw [List.takeWhile_cons] at h
   split at h
   ·rename_i hy
    rcases List.mem_cons.1 h with rfl | h
    ·exact of_decide_eq_true hy
    ·exact low_take x h
   ·cases h
theorem low_drop {k:Int}:∀ {l:List Dem},l.Pairwise (fun x y=>x.pt<y.pt)→∀ x∈l.dropWhile (low k),k≤x.pt
 | [],_,_,h=>by cases h
 | y :: l,hp,x,h=>by
   obtain ⟨h1,h2⟩:=List.pairwise_cons.1 hp
   rw [List.dropWhile_cons] at h
   split at h
   ·exact low_drop h2 x h
   ·rename_i hy
    have hy':¬ y.pt<k:=fun e=>hy (decide_eq_true e)
    rcases List.mem_cons.1 h with rfl | h
    ·omega
    ·have:=h1 x h;omega
theorem Good.put {l:List Dem} (h:Good l) {x:Dem} (hx:x.pos≠0):Good (Dm.put l x):=by
 unfold Dm.put
 split
 ·exact h
 ·rename_i h0
  have hf:=h.free (Decidable.not_not.1 h0)
  have hl:l.takeWhile (low x.pt)++l.dropWhile (low x.pt)=l:=List.takeWhile_append_dropWhile
  have hr:=h.rise
  rw [← hl] at hr
  obtain ⟨r1,r2,r3⟩:=List.pairwise_append.1 hr
  refine ⟨List.pairwise_append.2 ⟨r1,List.pairwise_cons.2 ⟨fun y hy=>?_,r2⟩,fun y hy z hz=>?_⟩,fun y hy=>?_⟩
  ·have h1:=low_drop h.rise y hy
   have h2:=hf y (by rw[← hl];exact List.mem_append_right _ hy)
   omega
  ·rcases List.mem_cons.1 hz with rfl | hz
   ·exact low_take y hy
   ·exact r3 y hy z hz
  ·rcases List.mem_append.1 hy with hy | hy
   ·exact h.some_ y (by rw[← hl];exact List.mem_append_left _ hy)
   ·rcases List.mem_cons.1 hy with rfl | hy
    ·exact hx
    ·exact h.some_ y (by rw[← hl];exact List.mem_append_right _ hy)
theorem Good.posOf_put {l:List Dem} (h:Good l) {x:Dem} (k:Int):posOf (Dm.put l x) k=if posOf l k≠0 then posOf l k else if k=x.pt then x.pos else 0:=by
 unfold Dm.put
 by_cases h0:posOf l x.pt≠0
 ·rw [if_pos h0]
  by_cases hk:posOf l k≠0
  ·rw[if_pos hk]
  ·rw [if_neg hk]
   have hk0:posOf l k=0:=Decidable.not_not.1 hk
   rw [hk0,if_neg]
   rintro rfl
   exact h0 hk0
 ·rw [if_neg h0]
  have hf:=h.free (Decidable.not_not.1 h0)
  have hl:l.takeWhile (low x.pt)++l.dropWhile (low x.pt)=l:=List.takeWhile_append_dropWhile
  have hk:=posOf_append (l.takeWhile (low x.pt)) (l.dropWhile (low x.pt)) k
  rw [hl] at hk
  rw [posOf_append,posOf_cons,hk]
  by_cases he:∃ y∈l.takeWhile (low x.pt),y.pt=k
  ·rw [if_pos he,if_pos he]
   obtain ⟨y,hy,hyk⟩:=he
   have hyl:y∈l:=by rw[← hl];exact List.mem_append_left _ hy
   have h1:=h.at hyl
   have h2:posOf (l.takeWhile (low x.pt)) k=posOf l k:=by rw[hk,if_pos ⟨y,hy,hyk⟩]
   rw [h2,if_pos (by rw[← hyk];exact h1.2)]
  ·rw [if_neg he,if_neg he]
   by_cases hkx:x.pt=k
   ·rw [if_pos hkx,if_neg,if_pos hkx.symm]
    rw [Decidable.not_not]
    exact posOf_none fun y hy e=>hf y (by rw[← hl];exact List.mem_append_right _ hy) (by rw[e,hkx])
   ·rw [if_neg hkx]
    by_cases hz:posOf (l.dropWhile (low x.pt)) k≠0
    ·rw[if_pos hz]
    ·rw [if_neg hz,if_neg (fun e=>hkx e.symm)]
     exact Decidable.not_not.1 hz
end Go.Proofs.YtncphjodaklleaaGreat.Dm
namespace Go.Proofs.YtncphjodaklleaaGreat.Fl
open Go Pl Wk
structure G where
 pts:List Dm.Dem
 fl:List Int
 seen:List Int
def put (l:List Int) (n:Int):List Int:=if (l.dropWhile fun x=>decide (x<n))[0]? = some n then l else (l.takeWhile fun x=>decide (x<n))++n :: l.dropWhile fun x=>decide (x<n)
def ends_ (p:Plan) (own:List Stp) (s e:Int) (g:G):Bool:=!(next p s e).2.2 || (within own (next p s e).1 || (g.seen.any (fun x=>decide (x=(next p s e).1)) || decide (g.seen.length=8)))
def on (p:Plan) (own:List Stp):Nat→Int→Int→G→G
 | 0,_,_,g=>g
 | k+1,s,e,g =>
   if ends_ p own s e g then g
   else if 0≤signal p (next p s e).1 (next p s e).2.1 then { g with seen:=g.seen++[(next p s e).1],fl:=put g.fl (signal p (next p s e).1 (next p s e).2.1) }
   else if isPoint p (next p s e).1=false then on p own k (next p s e).1 (1 - (next p s e).2.1) { g with seen:=g.seen++[(next p s e).1] }
   else if (next p s e).2.1=0 then on p own k (next p s e).1 2 (on p own k (next p s e).1 1 { g with seen:=g.seen++[(next p s e).1] })
   else if Dm.posOf g.pts (next p s e).1=(next p s e).2.1 then on p own k (next p s e).1 0 { g with seen:=g.seen++[(next p s e).1] }
   else if Dm.posOf g.pts (next p s e).1=0 then { g with seen:=g.seen++[(next p s e).1],pts:=Dm.put g.pts ⟨(next p s e).1,3 - (next p s e).2.1⟩ }
   else { g with seen:=g.seen++[(next p s e).1] }
def one (p:Plan) (own:List Stp) (g:G) (x:Stp):G:=if 0<position p x then on p own 9 x.s (3 - position p x) { g with seen:=[] } else g
def of (p:Plan) (own:List Stp):G:=own.foldl (one p own) ⟨Dm.ofSteps p own,[],[]⟩
theorem put_len (l:List Int) (n:Int):(put l n).length≤l.length+1:=by
 unfold put
 split
 ·omega
 ·have h:(l.takeWhile fun x=>decide (x<n))++l.dropWhile (fun x=>decide (x<n))=l:=List.takeWhile_append_dropWhile
  have:=congrArg List.length h
  rw [List.length_append] at this
  rw [List.length_append,List.length_cons]
  omega
theorem ends_len {p:Plan} {own:List Stp} {s e:Int} {g:G} (h:ends_ p own s e g=false):g.seen.length≠8:=by
 unfold ends_ at h
 simp only [Bool.or_eq_false_iff] at h
 exact of_decide_eq_false h.2.2.2
theorem dm_put_len (L:List Dm.Dem) (x:Dm.Dem):(Dm.put L x).length≤L.length+1:=by
 unfold Dm.put
 split
 ·omega
 ·have h:L.takeWhile (Dm.low x.pt)++L.dropWhile (Dm.low x.pt)=L:=List.takeWhile_append_dropWhile
  have:=congrArg List.length h
  rw [List.length_append] at this
  rw [List.length_append,List.length_cons]
  omega
structure Adds (g h:G):Prop where
 more:g.seen.length≤h.seen.length
 most:g.seen.length≤8→h.seen.length≤8
 pts:h.pts.length+g.seen.length≤g.pts.length+h.seen.length
 fl:h.fl.length+g.seen.length≤g.fl.length+h.seen.length
theorem Adds.refl (g:G):Adds g g:=⟨Nat.le_refl _,fun h=>h,Nat.le_refl _,Nat.le_refl _⟩
theorem Adds.trans {f g h:G} (a:Adds f g) (b:Adds g h):Adds f h:=by
 obtain ⟨a1,a2,a3,a4⟩:=a
 obtain ⟨b1,b2,b3,b4⟩:=b
 exact ⟨by omega,fun h=>b2 (a2 h),by omega,by omega⟩
theorem Adds.see {g:G} (q:Int) (h8:g.seen.length≠8):Adds g { g with seen:=g.seen++[q] }:=by
 have e:(g.seen++[q]).length=g.seen.length+1:=by rw[List.length_append];rfl
 exact ⟨by show _≤(g.seen++[q]).length;omega,fun h=>by show (g.seen++[q]).length≤8;omega,by show g.pts.length+_≤_+(g.seen++[q]).length;omega,by show g.fl.length+_≤_+(g.seen++[q]).length;omega⟩
theorem on_adds (p:Plan) (own:List Stp):∀ (k:Nat) (s e:Int) (g:G),Adds g (on p own k s e g)
 | 0,_,_,g=>Adds.refl g
 | k + 1, s, e,g=>by
   unfold on
   by_cases h0:ends_ p own s e g=true
   ·rw[if_pos h0];exact Adds.refl g
   rw [if_neg h0]
   have h8:=ends_len (Bool.eq_false_iff.2 h0)
   generalize hn:next p s e=w
   obtain ⟨q,f,ok⟩:=w
   have hs:=Adds.see q h8
   have e1:(g.seen++[q]).length=g.seen.length+1:=by rw[List.length_append];rfl
   simp only
   split
   ·have:=put_len g.fl (signal p q f)
    exact ⟨hs.more,hs.most,hs.pts,by show (put _ _).length+_≤_+(g.seen++[q]).length;omega⟩
   ·split
    ·exact hs.trans (on_adds p own k _ _ _)
    ·split
     ·exact (hs.trans (on_adds p own k _ _ _)).trans (on_adds p own k _ _ _)
     ·split
      ·exact hs.trans (on_adds p own k _ _ _)
      ·split
       ·have:=dm_put_len g.pts ⟨q,3 - f⟩
        exact ⟨hs.more,hs.most,by show (Dm.put _ _).length+_≤_+(g.seen++[q]).length;omega,hs.fl⟩
       ·exact hs
structure Keeps (g h:G):Prop where
 good:Dm.Good g.pts→Dm.Good h.pts
 same:Dm.Good g.pts→∀ k,Dm.posOf g.pts k≠0→Dm.posOf h.pts k=Dm.posOf g.pts k
theorem Keeps.refl (g:G):Keeps g g:=⟨fun h=>h,fun _ _ _=>rfl⟩
theorem Keeps.trans {f g h:G} (a:Keeps f g) (b:Keeps g h):Keeps f h :=
 ⟨fun x=>b.good (a.good x),fun x k hk=>by
  have h1:=a.same x k hk
  rw [b.same (a.good x) k (by rw[h1];exact hk),h1]⟩
theorem Keeps.of_pts {g h:G} (e:h.pts=g.pts):Keeps g h:=⟨fun x=>by rw[e];exact x,fun _ _ _=>by rw[e]⟩
theorem on_keeps (p:Plan) (own:List Stp):∀ (k:Nat) (s e:Int) (g:G),((next p s e).2.1=1∨(next p s e).2.1=2∨(next p s e).2.1=0)→(∀ s e,(next p s e).2.1=1∨(next p s e).2.1=2∨(next p s e).2.1=0)→Keeps g (on p own k s e g)
 | 0,_,_,g,_,_=>Keeps.refl g
 | k + 1, s, e,g,hf,hall=>by
   unfold on
   by_cases h0:ends_ p own s e g=true
   ·rw[if_pos h0];exact Keeps.refl g
   rw [if_neg h0]
   generalize hn:next p s e=w at hf
   obtain ⟨q,f,ok⟩:=w
   simp only at hf ⊢
   have hs:Keeps g { g with seen:=g.seen++[q] }:=Keeps.of_pts rfl
   split
   ·exact Keeps.of_pts rfl
   ·split
    ·exact hs.trans (on_keeps p own k _ _ _ (hall _ _) hall)
    ·split
     ·exact (hs.trans (on_keeps p own k _ _ _ (hall _ _) hall)).trans (on_keeps p own k _ _ _ (hall _ _) hall)
     ·split
      ·exact hs.trans (on_keeps p own k _ _ _ (hall _ _) hall)
      ·split
       ·rename_i hz
        have hne:(⟨q,3 - f⟩:Dm.Dem).pos≠0:=by show 3 - f≠0;omega
        refine ⟨fun x=>x.put hne,fun x k hk=>?_⟩
        show Dm.posOf (Dm.put g.pts ⟨q,3 - f⟩) k=_
        rw [x.posOf_put,if_pos hk]
       ·exact hs
theorem of_len (p:Plan) (own:List Stp):(of p own).pts.length≤(Dm.ofSteps p own).length+8 * own.length∧(of p own).fl.length≤8 * own.length:=by
 have h : ∀ (l:List Stp) (g:G),(l.foldl (one p own) g).pts.length≤g.pts.length+8 * l.length∧(l.foldl (one p own) g).fl.length≤g.fl.length+8 * l.length:=by
  intro l
  induction l with
  | nil=>intro g;exact ⟨Nat.le_refl _,Nat.le_refl _⟩
  | cons x l ih =>
    intro g
    rw [List.foldl_cons,List.length_cons]
    have h1:=ih (one p own g x)
    have h2:(one p own g x).pts.length≤g.pts.length+8∧(one p own g x).fl.length≤g.fl.length+8:=by
     unfold one
     split
     ·have ha:=on_adds p own 9 x.s (3 - position p x) { g with seen:=[] }
      have h3:=ha.most (Nat.zero_le _)
      have h4:=ha.pts
      have h5:=ha.fl
      simp only [List.length_nil,Nat.add_zero] at h4 h5
      exact ⟨by omega,by omega⟩
     ·exact ⟨by omega,by omega⟩
    omega
 have:=h own ⟨Dm.ofSteps p own,[],[]⟩
 simp only [List.length_nil,Nat.zero_add] at this
 exact this
end Go.Proofs.YtncphjodaklleaaGreat.Fl
