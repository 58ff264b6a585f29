/- Lemmas. -/
import Derived.Test.YtjofpclmbjpgjaaGreatMk14
namespace Go.Proofs.YtjofpclmbjpgjaaGreat
open Go.RowKit
structure RouteM where
 A1:Option Addr
 c1:Nat
 A2:Option Addr
 c2:Nat
 A3:Option Addr
 c3:Nat
 A4:Option Addr
 c4:Nat
 A5:Option Addr
 c5:Nat
 r:Rt.Route
def AeD (m:RouteM):List Value:=[.int .i64 m.r.entry,.int .i64 m.r.exit,.slice m.A1 m.r.steps.length m.c1,.slice m.A2 m.r.lap.length m.c2,.slice m.A3 m.r.pts.length m.c3,.slice m.A4 m.r.fl.length m.c4,.slice m.A5 m.r.near.length m.c5,.int .i64 m.r.dist,.int .i64 m.r.timer]
abbrev rtV (m:RouteM):Value:=.agg #[.int .i64 m.r.entry,.int .i64 m.r.exit,.slice m.A1 m.r.steps.length m.c1,.slice m.A2 m.r.lap.length m.c2,.slice m.A3 m.r.pts.length m.c3,.slice m.A4 m.r.fl.length m.c4,.slice m.A5 m.r.near.length m.c5,.int .i64 m.r.dist,.int .i64 m.r.timer]
def LRt:Lies RouteM:=⟨9,by decide,AeD,λ_=>rfl,λy u hu=>by
 simp[AeD] at hu
 rcases hu with rfl|rfl|rfl|rfl|rfl|rfl|rfl|rfl|rfl <;> rfl⟩
abbrev rtO (m:RouteM):Obj:=.cells #[.int .i64 m.r.entry,.int .i64 m.r.exit,.slice m.A1 m.r.steps.length m.c1,.slice m.A2 m.r.lap.length m.c2,.slice m.A3 m.r.pts.length m.c3,.slice m.A4 m.r.fl.length m.c4,.slice m.A5 m.r.near.length m.c5,.int .i64 m.r.dist,.int .i64 m.r.timer] 92
theorem mE {w:World} {b o:Nat} {m:RouteM} (h:LRt.On w b o m):w.cell? ⟨b,o,none⟩=some (.int .i64 m.r.entry)/\w.cell? ⟨b,o+1,none⟩=some (.int .i64 m.r.exit)/\w.cell? ⟨b,o+2,none⟩=some (.slice m.A1 m.r.steps.length m.c1)/\w.cell? ⟨b,o+3,none⟩=some (.slice m.A2 m.r.lap.length m.c2) /\
 w.cell? ⟨b,o+4,none⟩=some (.slice m.A3 m.r.pts.length m.c3)/\w.cell? ⟨b,o+5,none⟩=some (.slice m.A4 m.r.fl.length m.c4)/\w.cell? ⟨b,o+6,none⟩=some (.slice m.A5 m.r.near.length m.c5)/\w.cell? ⟨b,o+7,none⟩=some (.int .i64 m.r.dist)/\w.cell? ⟨b,o+8,none⟩=some (.int .i64 m.r.timer) :=
 ⟨h 0 _ rfl,h 1 _ rfl,h 2 _ rfl,h 3 _ rfl,h 4 _ rfl,h 5 _ rfl,h 6 _ rfl,h 7 _ rfl,h 8 _ rfl⟩
def ApartR {α:Type} (E:Lies α) (w:World) (k:Option Nat) (A:Option Addr) (L:List α):Prop:=E.Row w A L/\(L≠[]->∀ a,A=some a->k≠some a.block/\a.block<w.heap.size)
section
variable {α : Type} {E : Lies α} {w w' : World} {k : Option Nat} {A : Option Addr} {L : List α}
theorem ApartR.below (h:ApartR E w k A L) (hb:Below w.heap.size w w'):ApartR E w' k A L :=
 ⟨h.1.below rfl hb,λhL a ha=>⟨(h.2 hL a ha).1,AsE (h.2 hL a ha).2 hb.size⟩⟩
theorem bC (h:E.Row w A L) (hs:w.heap.size<=w'.heap.size) (hk:L≠[]->∀ a,A=some a->w'.heap[a.block]?=w.heap[a.block]?):E.Row w' A L:=by
 rcases h with h|⟨b,o,hA,hlt,h⟩
 ·exact .inl h
 refine .inr ⟨b,o,hA,by omega,λk y hy j v hv=>?_⟩
 have e:=hk (λe=>by rw[e] at hy;simp at hy) _ hA
 rw[<-h k y hy j v hv]
 unfold World.cell?
 rw[show w'.heap[b]?=w.heap[b]? from e]
theorem ApartR.grown (h:ApartR E w k A L) (hg:w.grownBy w' k):ApartR E w' k A L :=
 ⟨bC h.1 hg.size λhL a ha=>hg.block _ (h.2 hL a ha).2 λe=>(h.2 hL a ha).1 e.symm,λhL a ha=>⟨(h.2 hL a ha).1,AsE (h.2 hL a ha).2 hg.size⟩⟩
theorem ApartR.new (h:E.Row w A L) {N:Nat} (hn:L≠[]->∀ a,A=some a->N<=a.block) (hk:∀ j,k=some j->j<N):ApartR E w k A L:=by
 refine⟨h,λhL a ha=>⟨λe=>?_,?_⟩⟩
 ·have:=hn hL a ha
  have:=hk _ e
  omega
 rcases h with h|⟨b,o,hA,hlt,-⟩
 ·exact absurd h hL
 rw[hA] at ha;cases ha;exact hlt
theorem ApartR.typed {t t':TypeId} (h:TRow t E w A L) (ht:t≠t') {base size n:Nat} {v:Value} {xs:List Value} (ho:w.ownsRow base t' size v n xs):ApartR E w v.ownBlock A L:=by
 refine⟨h.row,λhL a ha=>?_⟩
 rcases h with h|⟨b,o,cs,fr,hA,hg,-⟩
 ·exact absurd h hL
 rw[hA] at ha
 cases ha
 refine⟨λe=>?_,(ArL hg).1⟩
 rcases ho.2 with ⟨h2,-⟩|⟨g,cap,cur,h2,-,hgg,-⟩
 ·rw[h2] at e;cases e
 rw[h2] at e
 have e':g=b:=AsO e
 subst e'
 rw[hg] at hgg
 cases hgg
 exact ht rfl
end
structure PartsAp (w:World) (k:Option Nat) (m:RouteM):Prop where
 p1:ApartR aE w k m.A1 m.r.steps
 p2:ApartR aE w k m.A2 m.r.lap
 p3:ApartR aJ w k m.A3 m.r.pts
 p4:ApartR aF w k m.A4 m.r.fl
 p5:ApartR aF w k m.A5 m.r.near
 q:m.r.steps.length<=m.c1/\m.r.lap.length<=m.c2
structure PartsIn (w:World) (m:RouteM):Prop where
 p1:aE.Row w m.A1 m.r.steps
 p2:aE.Row w m.A2 m.r.lap
 p3:aJ.Row w m.A3 m.r.pts
 p4:aF.Row w m.A4 m.r.fl
 p5:aF.Row w m.A5 m.r.near
 q:m.r.steps.length<=m.c1/\m.r.lap.length<=m.c2
structure PartsNew (W w:World) (m:RouteM):Prop where
 p1:TRow 129 aE w m.A1 m.r.steps
 p2:TRow 129 aE w m.A2 m.r.lap
 p3:aJ.Row w m.A3 m.r.pts
 p4:aF.Row w m.A4 m.r.fl
 p5:aF.Row w m.A5 m.r.near
 n3:m.r.pts≠[]->∀ a,m.A3=some a->W.heap.size<=a.block
 n4:m.r.fl≠[]->∀ a,m.A4=some a->W.heap.size<=a.block
 n5:m.r.near≠[]->∀ a,m.A5=some a->W.heap.size<=a.block
 q:m.r.steps.length<=m.c1/\m.r.lap.length<=m.c2
section
variable {w w' W : World} {k : Option Nat} {m : RouteM}
theorem PartsIn.below (h:PartsIn w m) (hb:Below w.heap.size w w'):PartsIn w' m:=⟨h.p1.below rfl hb,h.p2.below rfl hb,h.p3.below rfl hb,h.p4.below rfl hb,h.p5.below rfl hb,h.q⟩
theorem PartsAp.in_ (h:PartsAp w k m):PartsIn w m:=⟨h.p1.1,h.p2.1,h.p3.1,h.p4.1,h.p5.1,h.q⟩
theorem PartsAp.below (h:PartsAp w k m) (hb:Below w.heap.size w w'):PartsAp w' k m:=⟨h.p1.below hb,h.p2.below hb,h.p3.below hb,h.p4.below hb,h.p5.below hb,h.q⟩
theorem PartsAp.grown {k':Option Nat} (h:PartsAp w k m) (hg:w.grownBy w' k) (hk:∀ j,k'=some j->k=some j∨w.heap.size<=j):PartsAp w' k' m:=by
 have one:∀ {α:Type} {E:Lies α} {A:Option Addr} {L:List α},ApartR E w k A L->ApartR E w' k' A L:=λh=>by
  have h1:=h.grown hg
  refine⟨h1.1,λhL a ha=>⟨λe=>?_,(h1.2 hL a ha).2⟩⟩
  rcases hk _ e with h2|h2
  ·exact(h.2 hL a ha).1 h2
  have:=(h.2 hL a ha).2;omega
 exact⟨one h.p1,one h.p2,one h.p3,one h.p4,one h.p5,h.q⟩
theorem PartsNew.in_ (h:PartsNew W w m):PartsIn w m:=⟨h.p1.row,h.p2.row,h.p3,h.p4,h.p5,h.q⟩
theorem PartsNew.below (h:PartsNew W w m) (hb:Below w.heap.size w w'):PartsNew W w' m:=⟨h.p1.below hb,h.p2.below hb,h.p3.below rfl hb,h.p4.below rfl hb,h.p5.below rfl hb,h.n3,h.n4,h.n5,h.q⟩
theorem PartsNew.apart (h:PartsNew W w m) {base size n:Nat} {v:Value} {xs:List Value} (ho:w.ownsRow base 92 size v n xs) (hv:∀ j,v.ownBlock=some j->j<W.heap.size):PartsAp w v.ownBlock m :=
 ⟨ApartR.typed h.p1 (by decide) ho,ApartR.typed h.p2 (by decide) ho,ApartR.new h.p3 h.n3 hv,ApartR.new h.p4 h.n4 hv,ApartR.new h.p5 h.n5 hv,h.q⟩
end
def RoutesIn (w:World) (A:Option Addr) (L:List Rt.Route):Prop:=∃ M:List RouteM,M.map RouteM.r=L/\LRt.Row w A M/\∀ m∈M,PartsIn w m
theorem RoutesIn.nil (w:World) (A:Option Addr):RoutesIn w A []:=⟨[],rfl,.inl rfl,λ_ h=>(by cases h)⟩
theorem RoutesIn.below {w w':World} {A:Option Addr} {L:List Rt.Route} (h:RoutesIn w A L) (hb:Below w.heap.size w w'):RoutesIn w' A L:=by
 obtain⟨M,h1,h2,h3⟩:=h
 exact⟨M,h1,h2.below rfl hb,λm hm=>(h3 m hm).below hb⟩
theorem RoutesIn.at {w:World} {A:Option Addr} {L:List Rt.Route} (h:RoutesIn w A L) {k:Nat} {y:Rt.Route} (hk:L[k]?=some y):∃ (b o:Nat) (m:RouteM),A=some ⟨b,o,none⟩/\b<w.heap.size/\m.r=y/\LRt.On w b (o+k*9) m/\PartsIn w m:=by
 obtain⟨M,rfl,h2,h3⟩:=h
 rw[List.getElem?_map] at hk
 cases hm:M[k]? with
 | none=>rw[hm] at hk;cases hk
 | some m =>
   rw[hm] at hk
   obtain⟨hlt,hmk⟩:=ArM hm
   obtain⟨b,o,hA,hb,on⟩:=h2.at hlt
   rw[hmk] at on
   exact⟨b,o,m,hA,hb,AsO hk,on,h3 m (ArX hm)⟩
def NewR {α:Type} (N:Nat) (A:Option Addr) (L:List α):Prop:=L≠[]->∀ a,A=some a->N<=a.block
theorem NewR.base {α:Type} {N N':Nat} {A:Option Addr} {L:List α} (h:NewR N A L) (hn:N'<=N):NewR N' A L:=λhz a ha=>ArS hn (h hz a ha)
theorem iB {α:Type} {E:Lies α} {w:World} {base:Nat} {t:TypeId} {A:Option Addr} {c n:Nat} {L:List α} (h:w.ownsRow base t E.m (.slice A n c) n (E.all L)):NewR base A L:=λhz a ha=>by
 have hl:L.length=n:=(Lies.Row.of_own h).1.symm
 rcases h.2 with ⟨h1,h2⟩|⟨g,cap,cur,h1,h2,-⟩
 ·exact absurd (AsR (hl.trans (by cases h1;rfl))) hz
 cases h1
 cases ha
 exact h2
def FarR {α:Type} (N:Nat) (w:World) (A:Option Addr) (L:List α):Prop:=L≠[]->∀ a,A=some a->N<=a.block∨∃ cs fr,w.heap[a.block]?=some (.cells cs 129 fr)
theorem FarR.kept {α:Type} {N:Nat} {w w':World} {A:Option Addr} {L:List α} (h:FarR N w A L) (hk:∀ (b:Nat) (cs:Array Value) (fr:Nat × Nat),w.heap[b]?=some (Obj.cells cs 129 fr)->w'.heap[b]?=w.heap[b]?):FarR N w' A L:=λhz a ha=>(h hz a ha).imp id λ⟨cs,fr,e⟩=>⟨cs,fr,(hk _ _ _ e).trans e⟩
theorem FarR.typed {N:Nat} {w:World} {A:Option Addr} {L:List Wk.Stp} (h:TRow 129 aE w A L):FarR N w A L:=λhz a ha=>by
 rcases h with h|⟨b,o,cs,fr,hA,hb,-⟩
 ·exact absurd h hz
 rw[hA] at ha
 cases ha
 exact .inr ⟨cs,fr,hb⟩
theorem FarR.apart {α:Type} {E:Lies α} {N:Nat} {w:World} {A:Option Addr} {L:List α} (h:FarR N w A L) (hr:E.Row w A L) {B:Nat} {cs:Array Value} {t:TypeId} {fr:Nat × Nat} (hB:w.heap[B]?=some (.cells cs t fr)) (ht:t≠129) (hN:B<N):ApartR E w (some B) A L:=⟨hr,λhz a ha=>by
 refine⟨λe=>?_,?_⟩
 ·obtain rfl:B=a.block:=AsO e
  rcases h hz a ha with h1|⟨cs',fr',h1⟩
  ·omega
  rw[hB] at h1
  cases h1
  exact ht rfl
 rcases hr with hr|⟨b,o,hA,hb,-⟩
 ·exact absurd hr hz
 rw[hA] at ha
 cases ha
 exact hb⟩
structure PartsFar (N:Nat) (w:World) (m:RouteM):Prop where
 p1:FarR N w m.A1 m.r.steps
 p2:FarR N w m.A2 m.r.lap
 p3:FarR N w m.A3 m.r.pts
 p4:FarR N w m.A4 m.r.fl
 p5:FarR N w m.A5 m.r.near
theorem PartsFar.kept {N:Nat} {w w':World} {m:RouteM} (h:PartsFar N w m) (hk:∀ (b:Nat) (cs:Array Value) (fr:Nat × Nat),w.heap[b]?=some (Obj.cells cs 129 fr)->w'.heap[b]?=w.heap[b]?):PartsFar N w' m:=⟨h.p1.kept hk,h.p2.kept hk,h.p3.kept hk,h.p4.kept hk,h.p5.kept hk⟩
theorem PartsFar.below {N:Nat} {w w':World} {m:RouteM} (h:PartsFar N w m) (hb:Below w.heap.size w w'):PartsFar N w' m:=h.kept λb _ _ e=>hb.block b (ArL e).1
theorem PartsFar.base {N N':Nat} {w:World} {m:RouteM} (h:PartsFar N w m) (hn:N'<=N):PartsFar N' w m:=by
 have one:∀ {α:Type} {A:Option Addr} {L:List α},FarR N w A L->FarR N' w A L:=λh hz a ha=>(h hz a ha).imp (ArS hn) id
 exact⟨one h.p1,one h.p2,one h.p3,one h.p4,one h.p5⟩
theorem PartsNew.far {N:Nat} {W w:World} {m:RouteM} (h:PartsNew W w m) (hN:N<=W.heap.size):PartsFar N w m :=
 ⟨.typed h.p1,.typed h.p2,λhz a ha=>.inl (ArS hN (h.n3 hz a ha)),λhz a ha=>.inl (ArS hN (h.n4 hz a ha)),λhz a ha=>.inl (ArS hN (h.n5 hz a ha))⟩
theorem AhB {w w':World} {base size n:Nat} {e t:TypeId} {v:Value} {xs:List Value} (ho:w.ownsRow base e size v n xs) (hg:w.grownBy w' v.ownBlock) (ht:t≠e):∀ (b:Nat) (cs:Array Value) (fr:Nat × Nat),w.heap[b]?=some (Obj.cells cs t fr)->w'.heap[b]?=w.heap[b]?:=λb cs fr hb=>hg.block b (ArL hb).1 λe'=>by
 rcases ho.2 with ⟨h1,-⟩|⟨g,cap,cur,h1,-,h2,-⟩
 ·rw[h1] at e';cases e'
 rw[h1] at e'
 obtain rfl:b=g:=AsO e'
 rw[hb] at h2
 cases h2
 exact ht rfl
def RoutesFar (N:Nat) (w:World) (A:Option Addr) (L:List Rt.Route):Prop:=∃ M:List RouteM,M.map RouteM.r=L/\(LRt.Row w A M/\NewR N A M)/\∀ m∈M,PartsIn w m/\PartsFar N w m
theorem RoutesFar.in_ {N:Nat} {w:World} {A:Option Addr} {L:List Rt.Route} (h:RoutesFar N w A L):RoutesIn w A L:=by
 obtain⟨M,h1,h2,h3⟩:=h
 exact⟨M,h1,h2.1,λm hm=>(h3 m hm).1⟩
theorem RoutesFar.nil (N:Nat) (w:World):RoutesFar N w none []:=⟨[],rfl,⟨.inl rfl,λh=>absurd rfl h⟩,λ_ h=>(by cases h)⟩
theorem RoutesFar.below {N:Nat} {w w':World} {A:Option Addr} {L:List Rt.Route} (h:RoutesFar N w A L) (hb:Below w.heap.size w w'):RoutesFar N w' A L:=by
 obtain⟨M,h1,h2,h3⟩:=h
 exact⟨M,h1,⟨h2.1.below rfl hb,h2.2⟩,λm hm=>⟨(h3 m hm).1.below hb,(h3 m hm).2.below hb⟩⟩
theorem RoutesFar.base {N N':Nat} {w:World} {A:Option Addr} {L:List Rt.Route} (h:RoutesFar N w A L) (hn:N'<=N):RoutesFar N' w A L:=by
 obtain⟨M,h1,h2,h3⟩:=h
 exact⟨M,h1,⟨h2.1,h2.2.base hn⟩,λm hm=>⟨(h3 m hm).1,(h3 m hm).2.base hn⟩⟩
def AlD (w:World) (k:Option Nat) (A:Option Addr) (L:List Rt.Route):Prop:=∃ M:List RouteM,M.map RouteM.r=L/\ApartR LRt w k A M/\∀ m∈M,PartsAp w k m
theorem RoutesFar.apart {N:Nat} {w:World} {A:Option Addr} {L:List Rt.Route} (h:RoutesFar N w A L) {B:Nat} {cs:Array Value} {t:TypeId} {fr:Nat × Nat} (hB:w.heap[B]?=some (.cells cs t fr)) (ht:t≠129) (hN:B<N):AlD w (some B) A L:=by
 obtain⟨M,h1,h2,h3⟩:=h
 refine⟨M,h1,ApartR.new h2.1 h2.2 (λj hj=>by cases hj;exact hN),λm hm=>?_⟩
 obtain⟨hp,hf⟩:=h3 m hm
 exact⟨hf.p1.apart hp.p1 hB ht hN,hf.p2.apart hp.p2 hB ht hN,hf.p3.apart hp.p3 hB ht hN,hf.p4.apart hp.p4 hB ht hN,hf.p5.apart hp.p5 hB ht hN,hp.q⟩
structure OwnR (base:Nat) (w:World) (v:Value) (L:List Rt.Route):Prop where
 ex:∃ M:List RouteM,M.map RouteM.r=L/\w.ownsRow base 92 LRt.m v L.length (LRt.all M)/\∀ m∈M,PartsAp w v.ownBlock m/\PartsFar base w m
theorem OwnR.nil (w:World) (base:Nat):OwnR base w (.slice none 0 0) []:=⟨[],rfl,World.ownsRow_nil _ _ _ _,λ_ h=>by cases h⟩
theorem OwnR.below {base:Nat} {w w':World} {v:Value} {L:List Rt.Route} (h:OwnR base w v L) (hb:Below w.heap.size w w'):OwnR base w' v L:=by
 obtain⟨M,h1,h2,h3⟩:=h
 exact⟨M,h1,aA h2 hb,λm hm=>⟨(h3 m hm).1.below hb,(h3 m hm).2.below hb⟩⟩
theorem OwnR.routes {base:Nat} {w:World} {v:Value} {L:List Rt.Route} (h:OwnR base w v L):∃ A c,v=.slice A L.length c/\L.length<=c/\RoutesFar base w A L:=by
 obtain⟨M,h1,h2,h3⟩:=h
 have hl:M.length=L.length:=by rw[<-h1,AsH]
 obtain⟨-,A,c,rfl,hc,hR⟩:=Lies.Row.of_own (E:=LRt) h2
 exact⟨A,c,rfl,hc,M,h1,⟨hR,iB h2⟩,λm hm=>⟨(h3 m hm).1.in_,(h3 m hm).2⟩⟩
theorem OwnR.lt {base:Nat} {w:World} {v:Value} {L:List Rt.Route} (h:OwnR base w v L) {j:Nat} (hj:v.ownBlock=some j):j<w.heap.size:=by
 obtain⟨M,-,h2,-⟩:=h
 exact(h2.lt j hj).2
def RoutesMade (x:List Rt.Route × Int) (w:World) (e:Ending) (w':World):Prop:=∃ A c,e=.returned (.tuple #[.slice A x.1.length c,.int .i64 x.2])/\x.1.length<=c/\RoutesFar w.heap.size w' A x.1/\Below w.heap.size w w'
def AhC (x:List Rt.Route × Int) (w:World) (e:Ending) (w':World):Prop:=∃ A c,e=.returned (.tuple #[.slice A x.1.length c,.int .i64 x.2])/\x.1.length<=c/\RoutesIn w' A x.1/\Below w.heap.size w w'
theorem RoutesMade.yes {x:List Rt.Route × Int} {w:World} {e:Ending} {w':World} (h:RoutesMade x w e w'):AhC x w e w':=by
 obtain⟨A,c,h1,h2,h3,h4⟩:=h
 exact⟨A,c,h1,h2,h3.in_,h4⟩
def RouteYes (x:Rt.Route × Int) (w:World) (e:Ending) (w':World):Prop:=∃ m:RouteM,m.r=x.1/\e=.returned (.tuple #[rtV m,.int .i64 x.2])/\PartsNew w w' m/\Below w.heap.size w w'
end Go.Proofs.YtjofpclmbjpgjaaGreat
namespace Go.Proofs.YtjofpclmbjpgjaaGreat.Rt
open Go Pl Wk
theorem next_end {p:Plan} (hf:Fit p) (s e:Int):(next p s e).2.1=1∨(next p s e).2.1=2∨(next p s e).2.1=0:=by
 cases h:(next p s e).2.2 with
 | true =>
   obtain⟨j,f,-,-,h1,h2⟩:=Lp.next_in hf h
   rw[h1]
   omega
 | false =>
   unfold next at h ⊢
   split at h
   ·exact .inr (.inr rfl)
   split at h
   ·rename_i hx hg
    rw[ArZ hg]
    exact .inr (.inr rfl)
   cases h
theorem AeE {p:Plan} {b:Int} {way:List Stp}:∀ {t:List Stp} {s f:Int} {st:List Stp} {sum:Int},Lp.Chain p b way s f st sum t->∀ x∈t,within way x.s=false
 | [],_,_,_,_,h,_,_=>by unfold Lp.Chain at h;exact h.elim
 | x :: t,s,f,st,sum,h,y,hy=>by
   unfold Lp.Chain at h
   obtain⟨⟨-,h1,-,h2⟩,h3⟩:=h
   rcases AsN.1 hy with rfl|hy
   ·rw[Cr.outs_sec h2];exact h1
   rcases h3 with ⟨-,rfl⟩|⟨-,h3⟩
   ·cases hy
   exact AeE h3 y hy
theorem lap_of {p:Plan} {i:Int} {w:Cr.Way}:(Lp.of p i w).1=[]∨∃ b s f sum,Lp.Chain p b w.steps s f [] sum (Lp.of p i w).1:=by
 unfold Lp.of
 cases Cr.sigAt p i with
 | none=>exact .inl rfl
 | some g =>
   simp only
   split
   ·exact .inl rfl
   split
   ·exact .inl rfl
   cases Cr.sigAt p w.exit with
   | none=>exact .inl rfl
   | some x =>
     simp only
     rcases Lp.ofSig_cases p g.sec w.steps x with h|h|⟨-,l,-,h,-,-,h4⟩
     ·rw[h];exact .inl rfl
     ·rw[h];exact .inl rfl
     rw[h];exact .inr ⟨_,_,_,_,h4⟩
theorem xW {p:Plan} {s f:Int} {y:Stp} (h:y∈outs p s f):position p y<=2:=by
 have hft:y.f<=2/\y.t<=2:=by
  unfold outs at h
  split at h
  ·cases h
  split at h
  ·split at h
   ·rcases AsN.1 h with rfl|h
    ·exact⟨by show (0:Int)<=2;decide,by show (1:Int)<=2;decide⟩
    rw[AsS.1 h];exact⟨by show (0:Int)<=2;decide,by show (2:Int)<=2;decide⟩
   split at h
   ·rename_i h2
    rw[AsS.1 h]
    exact⟨by show f<=2;omega,by show (0:Int)<=2;decide⟩
   cases h
  split at h
  ·rename_i h2
   rw[AsS.1 h]
   exact⟨by show f<=2;omega,by show 1-f<=2;omega⟩
  cases h
 unfold position
 split
 ·omega
 decide
theorem gX {p:Plan} {b:Int}:∀ {t:List Stp} {s f:Int} {st:List Stp} {e:Int},Cr.Chain p b s f st t e->∀ y∈t,position p y<=2
 | [],_,_,_,_,_,y,hy=>by cases hy
 | x :: t,s,f,st,e,h,y,hy=>by
   unfold Cr.Chain at h
   obtain⟨⟨-,-,h1⟩,h⟩:=h
   rcases AsN.1 hy with rfl|hy
   ·exact xW h1
   rcases h with ⟨-,rfl,-⟩|⟨-,h⟩
   ·cases hy
   exact gX h y hy
theorem AeF {p:Plan} {b:Int} {way:List Stp}:∀ {t:List Stp} {s f:Int} {st:List Stp} {sum:Int},Lp.Chain p b way s f st sum t->∀ y∈t,position p y<=2
 | [],_,_,_,_,_,y,hy=>by cases hy
 | x :: t,s,f,st,sum,h,y,hy=>by
   unfold Lp.Chain at h
   obtain⟨⟨-,-,-,h1⟩,h⟩:=h
   rcases AsN.1 hy with rfl|hy
   ·exact xW h1
   rcases h with ⟨-,rfl⟩|⟨-,h⟩
   ·cases hy
   exact AeF h y hy
theorem own_pos {p:Plan} {i:Nat} (hi:i<p.sigs.length) {w:Cr.Way} (hw:w∈(Cr.of p i).1):∀ y∈w.steps++(Lp.of p i w).1,position p y<=2:=by
 intro y hy
 rcases ArW.1 hy with hy|hy
 ·rw[Cr.of_some (sig_at hi)] at hw
  exact gX (Cr.of_way hw).2.2.2 y hy
 rcases lap_of (p:=p) (i:=i) (w:=w) with h|⟨b,s,f,sum,h⟩
 ·rw[h] at hy;cases hy
 exact AeF h y hy
theorem way_some {p:Plan} {i:Nat} (hi:i<p.sigs.length) {w:Cr.Way} (hw:w∈(Cr.of p i).1):0<w.steps.length:=by
 rw[Cr.of_some (sig_at hi)] at hw
 have h:=(Cr.of_way hw).2.2.2
 cases hs:w.steps with
 | nil=>rw[hs] at h;unfold Cr.Chain at h;exact h.elim
 | cons x t=>rw[AsJ];omega
theorem near_bd {p:Plan} (hf:Fit p) (hm:Lp.Meas p) (i:Int):0<=(Nr.of p i).2/\(Nr.of p i).2<=26388279066624:=by
 have hl:=Nr.of_len hf (i:=i)
 have h:(Nr.of p i).2=Nr.total p (Nr.of p i).1:=by
  unfold Nr.of
  cases Cr.sigAt p i with
  | none=>rfl
  | some g =>
    simp only
    split <;> rfl
 have hb:=Nr.total_bd hm (Nr.of p i).1
 rw[h]
 refine⟨hb.1,Int.le_trans hb.2 ?_⟩
 omega
theorem ho_fin {L:List It.Itm} (hL:Pl.Ok L):0<=(fin L).ho/\(fin L).ho<=1099511627776:=by
 have h:=Lp.num_le hL 4
 show 0<=num L 4/\num L 4<=1099511627776
 omega
end Go.Proofs.YtjofpclmbjpgjaaGreat.Rt
namespace Go.Proofs.YtjofpclmbjpgjaaGreat
open Go.RowKit
abbrev rtZ:Obj:=.cells #[.int .i64 0,.int .i64 0,.slice none 0 0,.slice none 0 0,.slice none 0 0,.slice none 0 0,.slice none 0 0,.int .i64 0,.int .i64 0] 92
abbrev rtR (e x:Int) (s l p f n:Value) (d t:Int):Obj:=.cells #[.int .i64 e,.int .i64 x,s,l,p,f,n,.int .i64 d,.int .i64 t] 92
theorem dZ {W:World} {B b:Nat} {v0 v1 v2 v3 v4 v5 v6 v7 v8:Value} (h:b≠B) :
 (((((((((W.setCell ⟨B,0,none⟩ v0).setCell ⟨B,1,none⟩ v1).setCell ⟨B,2,none⟩ v2).setCell ⟨B,3,none⟩ v3).setCell ⟨B,4,none⟩ v4).setCell ⟨B,5,none⟩ v5).setCell ⟨B,6,none⟩ v6).setCell ⟨B,7,none⟩ v7).setCell ⟨B,8,none⟩ v8).heap[b]?=W.heap[b]?:=by
 repeat (rw[AsX _ _ _ _ h])
theorem dE {n:Nat} {w W:World} {B:Nat} {v0 v1 v2 v3 v4 v5 v6 v7 v8:Value} (h:Below n w W) (hB:n<=B) :
 Below n w (((((((((W.setCell ⟨B,0,none⟩ v0).setCell ⟨B,1,none⟩ v1).setCell ⟨B,2,none⟩ v2).setCell ⟨B,3,none⟩ v3).setCell ⟨B,4,none⟩ v4).setCell ⟨B,5,none⟩ v5).setCell ⟨B,6,none⟩ v6).setCell ⟨B,7,none⟩ v7).setCell ⟨B,8,none⟩ v8) :=
 ((((((((h.setCell (p:=⟨B,0,none⟩) hB _).setCell (p:=⟨B,1,none⟩) hB _).setCell (p:=⟨B,2,none⟩) hB _).setCell (p:=⟨B,3,none⟩) hB _).setCell (p:=⟨B,4,none⟩) hB _).setCell (p:=⟨B,5,none⟩) hB _).setCell (p:=⟨B,6,none⟩) hB _).setCell (p:=⟨B,7,none⟩) hB _).setCell (p:=⟨B,8,none⟩) hB _
theorem AhD {W:World} {B:Nat} {v0 v1 v2 v3 v4 v5 v6 v7 v8:Value}:(((((((((W.setCell ⟨B,0,none⟩ v0).setCell ⟨B,1,none⟩ v1).setCell ⟨B,2,none⟩ v2).setCell ⟨B,3,none⟩ v3).setCell ⟨B,4,none⟩ v4).setCell ⟨B,5,none⟩ v5).setCell ⟨B,6,none⟩ v6).setCell ⟨B,7,none⟩ v7).setCell ⟨B,8,none⟩ v8).heap.size=W.heap.size:=by
 simp
theorem TRow.same {α:Type} {t:TypeId} {E:Lies α} {w w':World} {A:Option Addr} {L:List α} (h:TRow t E w A L) (hk:∀ (b:Nat) (cs:Array Value) (fr:Nat × Nat),w.heap[b]?=some (Obj.cells cs t fr)->w'.heap[b]?=w.heap[b]?):TRow t E w' A L:=by
 rcases h with h|⟨b,o,cs,fr,hA,hb,h⟩
 ·exact .inl h
 refine .inr ⟨b,o,cs,fr,hA,(hk b cs fr hb).trans hb,λk y hy j v hv=>?_⟩
 rw[<-h k y hy j v hv]
 exact World.cell?_of_block (a:=⟨b,o+k*E.m+j,none⟩) (hk b cs fr hb)
theorem ApA {w:World} {B b:Nat} {cs cs':Array Value} {fr fr':Nat × Nat} {t:TypeId} (hB:w.heap[B]?=some (.cells cs' 92 fr')) (hb:w.heap[b]?=some (.cells cs t fr)) (ht:t≠92):b≠B:=λe=>by
 subst e
 rw[hb] at hB
 cases hB
 exact ht rfl
theorem PartsNew.set9 {W w:World} {m:RouteM} (h:PartsNew W w m) {B:Nat} {cs:Array Value} {fr:Nat × Nat} (hB:w.heap[B]?=some (.cells cs 92 fr)) (hlt:B<W.heap.size∨((m.r.pts≠[]->∀ a,m.A3=some a->a.block≠B)/\(m.r.fl≠[]->∀ a,m.A4=some a->a.block≠B)/\(m.r.near≠[]->∀ a,m.A5=some a->a.block≠B))) {v0 v1 v2 v3 v4 v5 v6 v7 v8:Value} :
 PartsNew W (((((((((w.setCell ⟨B,0,none⟩ v0).setCell ⟨B,1,none⟩ v1).setCell ⟨B,2,none⟩ v2).setCell ⟨B,3,none⟩ v3).setCell ⟨B,4,none⟩ v4).setCell ⟨B,5,none⟩ v5).setCell ⟨B,6,none⟩ v6).setCell ⟨B,7,none⟩ v7).setCell ⟨B,8,none⟩ v8) m:=by
 have hs:w.heap.size<=(((((((((w.setCell ⟨B,0,none⟩ v0).setCell ⟨B,1,none⟩ v1).setCell ⟨B,2,none⟩ v2).setCell ⟨B,3,none⟩ v3).setCell ⟨B,4,none⟩ v4).setCell ⟨B,5,none⟩ v5).setCell ⟨B,6,none⟩ v6).setCell ⟨B,7,none⟩ v7).setCell ⟨B,8,none⟩ v8).heap.size:=by rw[AhD];exact ArR _
 refine⟨h.p1.same λb cs fr hb=>dZ (ApA hB hb (by decide)),h.p2.same λb cs fr hb=>dZ (ApA hB hb (by decide)),bC h.p3 hs λhz a ha=>dZ ?_,bC h.p4 hs λhz a ha=>dZ ?_,bC h.p5 hs λhz a ha=>dZ ?_,h.n3,h.n4,h.n5,h.q⟩
 ·rcases hlt with h1|h1
  ·have:=h.n3 hz a ha;omega
  exact h1.1 hz a ha
 ·rcases hlt with h1|h1
  ·have:=h.n4 hz a ha;omega
  exact h1.2.1 hz a ha
 rcases hlt with h1|h1
 ·have:=h.n5 hz a ha;omega
 exact h1.2.2 hz a ha
theorem pG (w:World) (a b c:Obj):(((w.alloc a).alloc b).alloc c).heap[w.heap.size]?=some a/\(((w.alloc a).alloc b).alloc c).heap[w.heap.size+1]?=some b/\(((w.alloc a).alloc b).alloc c).heap[w.heap.size+1+1]?=some c/\Below w.heap.size w (((w.alloc a).alloc b).alloc c):=by
 have s1:(w.alloc a).heap.size=w.heap.size+1:=by simp
 have s2:((w.alloc a).alloc b).heap.size=w.heap.size+1+1:=by simp
 refine⟨?_,?_,?_,(((Below.refl _ _).alloc (ArR _) _).alloc (by omega) _).alloc (by omega) _⟩
 ·rw[heap_alloc_old _ _ (by omega),heap_alloc_old _ _ (by omega)];exact AsW _ _
 ·rw[heap_alloc_old _ _ (by omega),<-s1];exact AsW _ _
 rw[<-s2];exact AsW _ _
theorem Rt.quo (d:Int) (h:0<=d):d.tdiv 100000=d / 100000:=Int.tdiv_eq_ediv_of_nonneg h
theorem WaysT.grown {w w':World} {A:Option Addr} {L:List Cr.Way} (h:WaysT w A L) {base size n:Nat} {v:Value} {xs:List Value} (ho:w.ownsRow base 92 size v n xs) (hg:w.grownBy w' v.ownBlock):WaysT w' A L:=by
 have hb:∀ (b:Nat) (cs:Array Value) (t:TypeId) (fr:Nat × Nat),t≠92->w.heap[b]?=some (Obj.cells cs t fr)->w'.heap[b]?=w.heap[b]?:=λb cs t fr ht hb=>hg.block b (ArL hb).1 λe=>by
  rcases ho.2 with ⟨h1,-⟩|⟨g,cap,cur,h1,-,h2,-⟩
  ·rw[h1] at e;cases e
  rw[h1] at e
  have e':b=g:=AsO e
  subst e'
  rw[h2] at hb
  cases hb
  exact ht rfl
 obtain⟨M,e1,e2,e3⟩:=h
 exact⟨M,e1,e2.same λb cs fr h=>hb b cs _ fr (by decide) h,λm hm=>⟨(e3 m hm).1.same λb cs fr h=>hb b cs _ fr (by decide) h,(e3 m hm).2⟩⟩
theorem OwnR.snoc {base:Nat} {w w2 w4 W:World} {v v':Value} {M:List RouteM} {m:RouteM} (hrow:w.ownsRow base 92 LRt.m v (M.map RouteM.r).length (LRt.all M)) (hM:∀ x∈M,PartsAp w v.ownBlock x/\PartsFar base w x) (hm:PartsNew W w m) (hbW:base<=W.heap.size) (hW:∀ j,v.ownBlock=some j->j<W.heap.size) (hb:Below w.heap.size w w2)
 (hown:w4.ownsRow base 92 LRt.m v' ((M.map RouteM.r).length+1) (LRt.all M++LRt.all [m])) (hg:w2.grownBy w4 v.ownBlock) (hv:∀ j,v'.ownBlock=some j->v.ownBlock=some j∨w2.heap.size<=j):OwnR base w4 v' (M.map RouteM.r++[m.r]):=by
 have hk:=AhB (t:=129) (aA hrow hb) hg (by decide)
 refine⟨M++[m],by rw[List.map_append];rfl,?_,λx hx=>?_⟩
 ·rw[ArV,LRt.all_append];exact hown
 rcases ArW.1 hx with hx|hx
 ·exact⟨((hM x hx).1.below hb).grown hg hv,((hM x hx).2.below hb).kept hk⟩
 rw[AsS.1 hx]
 exact⟨((hm.apart hrow hW).below hb).grown hg hv,((hm.far hbW).below hb).kept hk⟩
theorem RouteYes.base {x:Rt.Route × Int} {w W w':World} {e:Ending} (h:RouteYes x W e w') (hW:Below w.heap.size w W):RouteYes x w e w':=by
 obtain⟨m,h1,h2,h3,h4⟩:=h
 exact⟨m,h1,h2,⟨h3.p1,h3.p2,h3.p3,h3.p4,h3.p5,λhz a ha=>ArS hW.size (h3.n3 hz a ha),λhz a ha=>ArS hW.size (h3.n4 hz a ha),λhz a ha=>ArS hW.size (h3.n5 hz a ha),h3.q⟩,hW.trans (h4.mono hW.size)⟩
theorem PartsNew.base {w W w':World} {m:RouteM} (h3:PartsNew W w' m) (hW:w.heap.size<=W.heap.size):PartsNew w w' m :=
 ⟨h3.p1,h3.p2,h3.p3,h3.p4,h3.p5,λhz a ha=>ArS hW (h3.n3 hz a ha),λhz a ha=>ArS hW (h3.n4 hz a ha),λhz a ha=>ArS hW (h3.n5 hz a ha),h3.q⟩
theorem rY {W:World} {B:Nat} {x0 x1 x2 x3 x4 x5 x6 x7 x8 v0 v1 v2 v3 v4 v5 v6 v7 v8:Value} {t:TypeId} (h:W.heap[B]?=some (.cells #[x0,x1,x2,x3,x4,x5,x6,x7,x8] t (0,0))) :
 (((((((((W.setCell ⟨B,0,none⟩ v0).setCell ⟨B,1,none⟩ v1).setCell ⟨B,2,none⟩ v2).setCell ⟨B,3,none⟩ v3).setCell ⟨B,4,none⟩ v4).setCell ⟨B,5,none⟩ v5).setCell ⟨B,6,none⟩ v6).setCell ⟨B,7,none⟩ v7).setCell ⟨B,8,none⟩ v8).heap[B]?=some (.cells #[v0,v1,v2,v3,v4,v5,v6,v7,v8] t (0,0)):=by
 have h1:(W.setCell ⟨B,0,none⟩ v0).heap[B]?=some (.cells #[v0,x1,x2,x3,x4,x5,x6,x7,x8] t (0,0)):=AtA _ _ _ _ _ _ h
 have h2:((W.setCell ⟨B,0,none⟩ v0).setCell ⟨B,1,none⟩ v1).heap[B]?=some (.cells #[v0,v1,x2,x3,x4,x5,x6,x7,x8] t (0,0)):=AtA _ _ _ _ _ _ h1
 have h3:(((W.setCell ⟨B,0,none⟩ v0).setCell ⟨B,1,none⟩ v1).setCell ⟨B,2,none⟩ v2).heap[B]?=some (.cells #[v0,v1,v2,x3,x4,x5,x6,x7,x8] t (0,0)):=AtA _ _ _ _ _ _ h2
 have h4:((((W.setCell ⟨B,0,none⟩ v0).setCell ⟨B,1,none⟩ v1).setCell ⟨B,2,none⟩ v2).setCell ⟨B,3,none⟩ v3).heap[B]?=some (.cells #[v0,v1,v2,v3,x4,x5,x6,x7,x8] t (0,0)):=AtA _ _ _ _ _ _ h3
 have h5:(((((W.setCell ⟨B,0,none⟩ v0).setCell ⟨B,1,none⟩ v1).setCell ⟨B,2,none⟩ v2).setCell ⟨B,3,none⟩ v3).setCell ⟨B,4,none⟩ v4).heap[B]?=some (.cells #[v0,v1,v2,v3,v4,x5,x6,x7,x8] t (0,0)):=AtA _ _ _ _ _ _ h4
 have h6:((((((W.setCell ⟨B,0,none⟩ v0).setCell ⟨B,1,none⟩ v1).setCell ⟨B,2,none⟩ v2).setCell ⟨B,3,none⟩ v3).setCell ⟨B,4,none⟩ v4).setCell ⟨B,5,none⟩ v5).heap[B]?=some (.cells #[v0,v1,v2,v3,v4,v5,x6,x7,x8] t (0,0)):=AtA _ _ _ _ _ _ h5
 have h7:(((((((W.setCell ⟨B,0,none⟩ v0).setCell ⟨B,1,none⟩ v1).setCell ⟨B,2,none⟩ v2).setCell ⟨B,3,none⟩ v3).setCell ⟨B,4,none⟩ v4).setCell ⟨B,5,none⟩ v5).setCell ⟨B,6,none⟩ v6).heap[B]?=some (.cells #[v0,v1,v2,v3,v4,v5,v6,x7,x8] t (0,0)):=AtA _ _ _ _ _ _ h6
 have h8:((((((((W.setCell ⟨B,0,none⟩ v0).setCell ⟨B,1,none⟩ v1).setCell ⟨B,2,none⟩ v2).setCell ⟨B,3,none⟩ v3).setCell ⟨B,4,none⟩ v4).setCell ⟨B,5,none⟩ v5).setCell ⟨B,6,none⟩ v6).setCell ⟨B,7,none⟩ v7).heap[B]?=some (.cells #[v0,v1,v2,v3,v4,v5,v6,v7,x8] t (0,0)):=AtA _ _ _ _ _ _ h7
 have h9:(((((((((W.setCell ⟨B,0,none⟩ v0).setCell ⟨B,1,none⟩ v1).setCell ⟨B,2,none⟩ v2).setCell ⟨B,3,none⟩ v3).setCell ⟨B,4,none⟩ v4).setCell ⟨B,5,none⟩ v5).setCell ⟨B,6,none⟩ v6).setCell ⟨B,7,none⟩ v7).setCell ⟨B,8,none⟩ v8).heap[B]?=some (.cells #[v0,v1,v2,v3,v4,v5,v6,v7,v8] t (0,0)):=AtA _ _ _ _ _ _ h8
 exact h9
def AqV (wr:World) (r:Rt.Route) (e2:Int) (v v2:Value) (w':World):Prop:=∃ (g:Nat) (m:RouteM),v=.pointer (some ⟨g,0,none⟩)/\v2=.int .i64 e2/\m.r=r/\w'.heap[g]?=some (rtO m)/\PartsNew wr w' m/\Below wr.heap.size wr w'
theorem Rt.ways_at {p:Pl.Plan} {i:Int} {L:List Cr.Way} {k:Nat} {y:Cr.Way} (h:L[k]?=some y) (acc:List Rt.Route):Rt.ways p i (L.drop k) acc=if acc.length=30 then([],9) else if (Rt.of p i y).2=0 then Rt.ways p i (L.drop (k+1)) (acc++[(Rt.of p i y).1]) else([],(Rt.of p i y).2):=by
 rw[Rt.drop_at h];rfl
theorem Rt.from_at {p:Pl.Plan} {i:Nat} (h:i<p.sigs.length) (acc:List Rt.Route):Rt.from_ p ((List.range p.sigs.length).drop i) acc=if (Cr.of p i).2=0 then(if (Rt.ways p i (Cr.of p i).1 acc).2=0 then Rt.from_ p ((List.range p.sigs.length).drop (i+1)) (Rt.ways p i (Cr.of p i).1 acc).1 else([],(Rt.ways p i (Cr.of p i).1 acc).2)) else([],(Cr.of p i).2):=by
 rw[Rt.range_drop h];rfl
theorem AeG:(Tryz.prog.info? 92).map (λi=>(i.zero,i.size,i.bytes))=some (some (.agg #[.int .i64 0,.int .i64 0,.slice none 0 0,.slice none 0 0,.slice none 0 0,.slice none 0 0,.slice none 0 0,.int .i64 0,.int .i64 0]),9,152):=by kernel_rfl
end Go.Proofs.YtjofpclmbjpgjaaGreat
