/- Lemmas. -/
import Derived.Test.YtjofpclmbjpgjaaGreatMk12
import Derived.Deep.RegionHeld
set_option maxHeartbeats 16000000
set_option maxRecDepth 100000
namespace Go.Proofs.YtjofpclmbjpgjaaGreat
open Lib (hid)
open Go.RowKit
theorem Dm.posOf_drop {L:List Dm.Dem} {j:Nat} {x:Dm.Dem} (h:L[j]?=some x) (k:Int):Dm.posOf (L.drop j) k=if x.pt=k then x.pos else Dm.posOf (L.drop (j+1)) k:=by
 obtain⟨hj,rfl⟩:=ArM h
 rw[List.drop_eq_getElem_cons hj,Dm.posOf_cons]
theorem eM (A:Option Addr) (c:Nat) (L:List Dm.Dem) (k:Int) (w:World) (h:aJ.Row w A L) (hl:L.length<=1000000) :
 Calls Tryz.prog 124 #[.slice A L.length c,.int .i64 k] w (OneIs (.int .i64 (Dm.posOf L k)) w):=by
 --[
 have B0:=hid (AtB w)
 have HR:=hid h
 generalize hq:Dm.posOf L k=q
 have HQ:=hid hq
 clear h hq
 go_enter Tryz.func124,Tryz.ntmps124
 go_wp2_with fail
 go_loopw [5] (λv w'=>∃ j:Nat,j<=L.length/\v=.int .i64 j/\Dm.posOf (L.drop j) k=q/\Below w.heap.size w w') (λv _=>L.length-(intOf v).toNat)
 case atStart=>exact⟨0,AsD _,rfl,by rw[List.drop_zero];exact HQ.out,B0.out⟩
 case round =>
  obtain⟨j,hj,rfl,hp,hb⟩:=hrel
  by_cases hlt:j<L.length
  ·have hy:=ArN hlt
   obtain⟨b,o,rfl,hbb,on⟩:=(HR.out.below rfl hb).at hlt
   generalize L[j]=x at hy on
   obtain⟨c0,c1⟩:=eV on
   rw[show j*aJ.m=j*2 from rfl] at c0 c1
   rw[Dm.posOf_drop hy] at hp
   obtain⟨d1,i0,i1⟩:=ArK (show j<L.length by omega)
   have HB:=hid hb
   have HP:=hid hp
   clear hb hy on hp
   by_cases hk:x.pt=k
   ·have E:(x.pt == k)=true:=by rw[beq_iff_eq];exact hk
    have HP2:=hid (show x.pos=q from by have:=HP.out;rwa [ArZ hk] at this)
    clear hk
    go_wp2
    go_ret
    exact⟨by rw[HP2.out] <;> rfl,HB.out⟩
   have E:(x.pt == k)=false:=by rw[ArU];exact hk
   have HP2:=hid (show Dm.posOf (L.drop (j+1)) k=q from by have:=HP.out;rwa [ArY hk] at this)
   clear hk
   go_wp2
   go_roundw
   case rel=>exact⟨j+1,by omega,by go_num,HP2.out,HB.out⟩
   case measure=>simp[intOf];omega
  obtain rfl:j=L.length:=by omega
  have d1:decide ((L.length:Int)<(L.length:Int))=false:=aB (by omega)
  rw[List.drop_length] at hp
  have HB:=hid hb
  have HP:=hid hp
  clear hb hp
  go_wp2
  go_ret
  exact⟨by rw[<-HP.out];rfl,HB.out⟩
 --]
theorem Dm.opposed_drop {L:List Dm.Dem} {j:Nat} {x:Dm.Dem} (h:L[j]?=some x) (b:List Dm.Dem):Dm.opposed (L.drop j) b=((decide (Dm.posOf b x.pt≠0) && decide (Dm.posOf b x.pt≠x.pos)) || Dm.opposed (L.drop (j+1)) b):=by
 obtain⟨hj,rfl⟩:=ArM h
 rw[List.drop_eq_getElem_cons hj]
 unfold Dm.opposed
 rw[List.any_cons]
theorem iL (A:Option Addr) (c:Nat) (L:List Dm.Dem) (A':Option Addr) (c':Nat) (M:List Dm.Dem) (w:World) (h:aJ.Row w A L) (hl:L.length<=1000000) (h':aJ.Row w A' M) (hl':M.length<=1000000) :
 Calls Tryz.prog 79 #[.slice A L.length c,.slice A' M.length c'] w (OneIs (.bool (Dm.opposed L M)) w):=by
 --[
 have B0:=hid (AtB w)
 have HR:=hid h
 have CP:=hid (λW (hb:Below w.heap.size w W) k=>eM A' c' M k W (h'.below rfl hb) hl')
 generalize hq:Dm.opposed L M=q
 have HQ:=hid hq
 clear h hq h' hl'
 go_enter Tryz.func79,Tryz.ntmps79
 go_wp2_with fail
 go_loopw [5] (λv w'=>∃ j:Nat,j<=L.length/\v=.int .i64 j/\Dm.opposed (L.drop j) M=q/\Below w.heap.size w w') (λv _=>L.length-(intOf v).toNat)
 case atStart=>exact⟨0,AsD _,rfl,by rw[List.drop_zero];exact HQ.out,B0.out⟩
 case round =>
  obtain⟨j,hj,rfl,hp,hb⟩:=hrel
  by_cases hlt:j<L.length
  ·have hy:=ArN hlt
   have HB:=hid hb
   obtain⟨b,o,rfl,hbb,on⟩:=(HR.out.below rfl hb).at hlt
   generalize L[j]=x at hy on
   obtain⟨c0,c1⟩:=eV on
   rw[show j*aJ.m=j*2 from rfl] at c0 c1
   rw[Dm.opposed_drop hy] at hp
   obtain⟨d1,i0,i1⟩:=ArK (show j<L.length by omega)
   have C:=hid (CP.out _ hb x.pt)
   have K1:=hid (λW (hW:Below wr.heap.size wr W)=>(hW.cell (p:=⟨b,o+j*2+1,none⟩) hbb).trans c1)
   have HP:=hid hp
   clear hb hy on hp
   generalize Dm.posOf M x.pt=n at C HP
   go_wp2_with fail
   refine C.out.mono ?_;rintro e w1 ⟨rfl,hb1⟩
   have k1:=K1.out _ hb1
   have HB1:=hid (HB.out.trans (hb1.mono HB.out.size))
   clear hb1 c0 c1 hbb C K1
   by_cases h0:n=0
   ·have E:(n != 0)=false:=by rw[bne_eq_false_iff_eq];exact h0
    have HP2:=hid (show Dm.opposed (L.drop (j+1)) M=q from by have:=HP.out;rw[h0] at this;exact this)
    clear h0
    go_wp2
    go_roundw
    case rel=>exact⟨j+1,by omega,by go_num,HP2.out,HB1.out⟩
    case measure=>simp[intOf];omega
   have E:(n != 0)=true:=by rw[AsV];exact h0
   by_cases h1:n=x.pos
   ·have E2:(n != x.pos)=false:=by rw[bne_eq_false_iff_eq];exact h1
    have HP2:=hid (show Dm.opposed (L.drop (j+1)) M=q from by
     have:=HP.out
     rw[decide_eq_false (p:=n≠x.pos) (λh=>h h1),Bool.and_false,Bool.false_or] at this
     exact this)
    clear h0 h1
    go_wp2
    go_roundw
    case rel=>exact⟨j+1,by omega,by go_num,HP2.out,HB1.out⟩
    case measure=>simp[intOf];omega
   have E2:(n != x.pos)=true:=by rw[AsV];exact h1
   have HP2:=hid (show true=q from by
    have:=HP.out
    rw[decide_eq_true (p:=n≠x.pos) h1,decide_eq_true (p:=n≠0) h0,Bool.true_and,Bool.true_or] at this
    exact this)
   clear h0 h1
   go_wp2
   go_ret
   exact⟨by rw[<-HP2.out] <;> rfl,HB1.out⟩
  obtain rfl:j=L.length:=by omega
  have d1:decide ((L.length:Int)<(L.length:Int))=false:=aB (by omega)
  rw[List.drop_length] at hp
  have HB:=hid hb
  have HP:=hid (show false=q from hp)
  clear hb hp
  go_wp2
  go_ret
  exact⟨by rw[<-HP.out] <;> rfl,HB.out⟩
 --]
theorem AbS (A:Option Addr) (c:Nat) (L:List Dm.Dem) (A':Option Addr) (c':Nat) (M:List Dm.Dem) (w:World) (h:aJ.Row w A L) (hl:L.length<=1000000) (h':aJ.Row w A' M) (_hl':M.length<=1000000) :
 Calls Tryz.prog 41 #[.slice A L.length c,.slice A' M.length c'] w (OneIs (.bool (decide (L=M))) w):=by
 --[
 have B0:=hid (AtB w)
 have HR:=hid h
 have HR':=hid h'
 clear h h'
 by_cases hn:L.length=M.length
 ·have E : ((L.length:Int) == (M.length:Int))=true:=by rw[beq_iff_eq];omega
  have HN:=hid hn
  go_enter Tryz.func41,Tryz.ntmps41
  go_wp2_with fail
  go_loopw [5] (λv w'=>∃ j:Nat,j<=L.length/\v=.int .i64 j/\L.take j=M.take j/\Below w.heap.size w w') (λv _=>L.length-(intOf v).toNat)
  case atStart=>exact⟨0,AsD _,rfl,rfl,B0.out⟩
  case round =>
   obtain⟨j,hj,rfl,hp,hb⟩:=hrel
   by_cases hlt:j<L.length
   ·have hy:=ArN hlt
    have hy':=ArN (show j<M.length by omega)
    have HB:=hid hb
    obtain⟨b,o,rfl,hbb,on⟩:=(HR.out.below rfl hb).at hlt
    obtain⟨b',o',rfl,hbb',on'⟩:=(HR'.out.below rfl hb).at (show j<M.length by omega)
    generalize L[j]=x at hy on
    generalize M[j]=y at hy' on'
    obtain⟨c0,c1⟩:=eV on
    obtain⟨c0',c1'⟩:=eV on'
    rw[show j*aJ.m=j*2 from rfl] at c0 c1 c0' c1'
    obtain⟨d1,i0,i1⟩:=ArK (show j<L.length by omega)
    have i1':(j:Int)<(M.length:Int):=by omega
    have HY:=hid (AsG hy hy')
    have HP:=hid hp
    clear hb hy hy' on on' hp E hn
    obtain⟨p1,q1⟩:=x
    obtain⟨p2,q2⟩:=y
    simp only at c0 c1 c0' c1'
    by_cases h1:p1=p2
    ·have E1:(p1 == p2)=true:=by rw[beq_iff_eq];exact h1
     by_cases h2:q1=q2
     ·have E2:(q1 == q2)=true:=by rw[beq_iff_eq];exact h2
      have HP2:=hid (show L.take (j+1)=M.take (j+1) from by
       rw[List.take_add_one,List.take_add_one,HY.out.1,HY.out.2,HP.out,h1,h2])
      clear h1 h2
      go_upto_region 6 with fail
      go_quiet (fail)
      go_wp2
      go_roundw
      case rel=>exact⟨j+1,by omega,by go_num,HP2.out,aH HB.out _⟩
      case measure=>simp[intOf];omega
     have E2:(q1 == q2)=false:=by rw[ArU];exact h2
     have HF:=hid (show decide (L=M)=false from decide_eq_false λe=>by
      have h3:=HY.out.1
      rw[e,HY.out.2] at h3
      cases h3
      exact h2 rfl)
     clear h1 h2
     go_upto_region 6 with fail
     go_quiet (fail)
     go_wp2
     go_ret
     exact⟨by rw[HF.out] <;> rfl,aH HB.out _⟩
    have E1:(p1 == p2)=false:=by rw[ArU];exact h1
    have HF:=hid (show decide (L=M)=false from decide_eq_false λe=>by
     have h3:=HY.out.1
     rw[e,HY.out.2] at h3
     cases h3
     exact h1 rfl)
    clear h1
    go_upto_region 6 with fail
    go_quiet (fail)
    go_wp2
    go_ret
    exact⟨by rw[HF.out] <;> rfl,aH HB.out _⟩
   obtain rfl:j=L.length:=by omega
   have d1:decide ((L.length:Int)<(L.length:Int))=false:=aB (by omega)
   have HB:=hid hb
   have HP:=hid (show decide (L=M)=true from decide_eq_true (by
    rw[List.take_length,hn,List.take_length] at hp
    exact hp))
   clear hb hp hn E
   go_wp2
   go_ret
   exact⟨by rw[HP.out] <;> rfl,HB.out⟩
 ·have E:((L.length:Int) == (M.length:Int))=false:=by rw[ArU];omega
  have P:=hid (show decide (L=M)=false from decide_eq_false λh=>hn (by rw[h]))
  clear hn
  go_enter Tryz.func41,Tryz.ntmps41
  go_wp2
  go_ret
  exact⟨by rw[P.out] <;> rfl,B0.out⟩
 --]
open Go
def goesOn (P:Program) (md:Region.Mode) (ops:Array Oper) (Q:Exit->Act->World->Prop) (S:Array Bool->World->Prop) (fuel:Nat) (l:Array Bool) (a:Act) (w:World):Prop :=
 match fuel with
 | 0=>Region.ready md ops l=[]/\Q .normal a w
 | n+1=>(Region.ready md ops l=[]->Q .normal a w)/\∀ j,j∈Region.ready md ops l->wpOp P ops Q j (λb u=>S (l.setIfInBounds j true) u/\goesOn P md ops Q S n (l.setIfInBounds j true) b u) a w
section
variable {P : Program} {md : Region.Mode} {ops : Array Oper} {Q : Exit -> Act -> World -> Prop} {S : Array Bool -> World -> Prop}
theorem goesOn.any {n:Nat}:∀ {l:Array Bool} {a:Act} {w:World},goesOn P md ops Q S n l a w->wpAny P md ops Q n l a w:=by
 induction n with
 | zero=>intro l a w h;exact h
 | succ n ih=>intro l a w h;exact⟨h.1,λj hj=>wpOp_mono (λb u hb=>ih hb.2) (h.2 j hj)⟩
def waits (md:Region.Mode) (ops:Array Oper) (i:Nat) (U:List Nat):Bool:=U.all λu=>decide (u≠i) && ((ops[u]?).map λo=>o.after.any λe=>Region.binds md e && (e.on == i || U.contains e.on)).getD false
theorem waits.not_ready {i:Nat} {U:List Nat} (hU:waits md ops i U=true) {l:Array Bool} (h:∀ u∈U,l.getD u true=false) (hi:l.getD i true=false) {u:Nat} (hu:u∈U):u ∉ Region.ready md ops l:=λhr=>by
 obtain⟨-,o,ho,hall⟩:=mem_ready.1 hr
 have h1:=List.all_eq_true.1 hU u hu
 rw[ho,AsF] at h1
 obtain⟨e,he,h2⟩:=Array.any_eq_true'.1 h1.2
 rw[AsF,Bool.or_eq_true,beq_iff_eq] at h2
 have h3:=hall e he h2.1
 have h4:l.getD e.on true=false:=by
  rcases h2.2 with h5|h5
  ·rw[h5];exact hi
  exact h _ (List.contains_iff_mem.1 h5)
 rw[Array.getD_eq_getD_getElem?] at h3 h4
 cases hx:l[e.on]? with
 | none=>rw[hx] at h4;cases h4
 | some x=>rw[hx] at h3 h4;cases h3.symm.trans h4
theorem goesOn.pull {i:Nat} {oi:Oper} {v:Value} {U:List Nat} (hi:ops[i]?=some oi) (hsel:∀ (j:Nat) (o:Oper) cs b,ops[j]?=some o->o.op≠.select cs b)
 (hQ:∀ c a w,Q (.panic c) (a.put oi.dst v) w->Q (.panic c) a w) (hU:waits md ops i U=true) (hSi:∀ l w,S (l.setIfInBounds i true) w->S l w) {n:Nat} :
 ∀ {l:Array Bool} {a:Act} {w:World},(∀ u∈U,l.getD u true=false)->(∀ j oj,ops[j]?=some oj->j≠i->l.getD j true=false->(∀ e∈oj.after,Region.binds md e=true->e.on≠i)->oi.apart ops oj=true) ->
   i∈Region.ready md ops l->YieldsIf P ops (λw=>∃ l',(∀ u∈U,l'.getD u true=false)/\S l' w) oi v a->S (l.setIfInBounds i true) w ->
   goesOn P md ops Q S n (l.setIfInBounds i true) (a.put oi.dst v) w->goesOn P md ops Q S (n+1) l a w:=by
 have hne:∀ u∈U,u≠i:=λu hu=>by
  have:=List.all_eq_true.1 hU u hu
  rw[AsF,AsC] at this
  exact this.1
 have hs:∀ {l:Array Bool},(∀ u∈U,l.getD u true=false)->∀ u∈U,(l.setIfInBounds i true).getD u true=false:=λh u hu=>by
  rw[getD_set_ne true (Ne.symm (hne u hu))]
  exact h u hu
 induction n with
 | zero =>
   intro l a w hl _ hr hy hS H
   refine⟨λh=>(by rw[h] at hr;cases hr),λj hj=>?_⟩
   by_cases hji:j=i
   ·subst hji;exact hy.wpOp hi ⟨_,hs hl,hS⟩ ⟨hS,H⟩
   have:=ready_mono hj hji
   rw[H.1] at this
   cases this
 | succ n ih =>
   intro l a w hl hfree hr hy hS H
   refine⟨λh=>(by rw[h] at hr;cases hr),λj hj=>?_⟩
   by_cases hji:j=i
   ·subst hji;exact hy.wpOp hi ⟨_,hs hl,hS⟩ ⟨hS,H⟩
   obtain⟨hjl,oj,hoj,hall⟩:=mem_ready.1 hj
   have hil:=(mem_ready.1 hr).1
   have hno:∀ e∈oj.after,Region.binds md e=true->e.on≠i:=λe he hb heq=>by
    have h1:=hall e he hb
    rw[heq,Array.getD_eq_getD_getElem?] at h1
    rw[Array.getD_eq_getD_getElem?] at hil
    cases hx:l[i]? with
    | none=>rw[hx] at hil;cases hil
    | some x=>rw[hx] at h1 hil;cases h1.symm.trans hil
   have hjU:j ∉ U:=λhu=>waits.not_ready hU hl hil hu hj
   have step:=wpOp_putIf hoj (hfree j oj hoj hji hjl hno) (λcs b=>hsel i oi cs b hi) (λcs b=>hsel j oj cs b hoj) hQ hy (H.2 j (ready_mono hj hji))
   refine wpOp_mono (λb u hb=>?_) step
   obtain⟨hy',hS',H'⟩:=hb
   have hl':∀ x∈U,(l.setIfInBounds j true).getD x true=false:=λx hx=>by
    rw[getD_set_ne true (λe=>hjU (by rw[e];exact hx))]
    exact hl x hx
   rw[Array.setIfInBounds_comm _ _ (Ne.symm hji)] at hS' H'
   refine⟨hSi _ _ hS',ih hl' (λk ok hk hki hun hn=>hfree k ok hk hki ?_ hn) (ready_mono hr (Ne.symm hji)) hy' hS' H'⟩
   by_cases hjk:j=k
   ·subst hjk;exact hjl
   rwa [getD_set_ne true hjk] at hun
theorem goesOn.take {i:Nat} {oi:Oper} {v:Value} (U:List Nat) {n:Nat} {l:Array Bool} {a:Act} {w:World} (hi:ops[i]?=some oi) (hs:Region.noSelect ops=true) (hf:Region.free md ops l i=true) (hr:(Region.ready md ops l).contains i=true)
 (hQ:∀ c a w,Q (.panic c) (a.put oi.dst v) w->Q (.panic c) a w) (hU:waits md ops i U=true) (hl:(U.all λu=>!l.getD u true)=true) (hSi:∀ l w,S (l.setIfInBounds i true) w->S l w)
 (hy:YieldsIf P ops (λw=>∃ l',(∀ u∈U,l'.getD u true=false)/\S l' w) oi v a) (hS:S (l.setIfInBounds i true) w) (h:goesOn P md ops Q S n (l.setIfInBounds i true) (a.put oi.dst v) w):goesOn P md ops Q S (n+1) l a w :=
 goesOn.pull hi (Region.noSelect_spec hs) hQ hU hSi (λu hu=>by simpa using List.all_eq_true.1 hl u hu) (Region.free_spec hi hf) (by simpa using hr) hy hS h
def EachOn (P:Program) (md:Region.Mode) (ops:Array Oper) (Q:Exit->Act->World->Prop) (S:Array Bool->World->Prop) (n:Nat) (l:Array Bool) (a:Act) (w:World) (rs:List Nat):Prop :=
 ∀ j∈rs,wpOp P ops Q j (λb u=>S (l.setIfInBounds j true) u/\goesOn P md ops Q S n (l.setIfInBounds j true) b u) a w
theorem EachOn.nil {n:Nat} {l:Array Bool} {a:Act} {w:World}:EachOn P md ops Q S n l a w []:=λ_ h=>by cases h
theorem EachOn.cons {n:Nat} {l:Array Bool} {a:Act} {w:World} {j:Nat} {o:Oper} {rs:List Nat} (ho:ops[j]?=some o)
 (h:∀ K':Act->World->Prop,Go.Shut (∀ b u,S (l.setIfInBounds j true) u->goesOn P md ops Q S n (l.setIfInBounds j true) b u->K' b u)->if Region.wanted o (yielded ops a.tmps)=true then Oper.wp P o a w K' Q else K' (a.put o.dst undef) w)
 (hs:EachOn P md ops Q S n l a w rs):EachOn P md ops Q S n l a w (j :: rs):=λk hk=>by
 rcases AsN.1 hk with rfl|hk
 ·exact wpOp_step ho λK' hK=>h K' λb u h1 h2=>hK b u ⟨h1,h2⟩
 exact hs k hk
theorem goesOn.each {rs:List Nat} {n:Nat} {l:Array Bool} {a:Act} {w:World} (hr:Region.ready md ops l=rs) (hne:rs≠[]) (h:EachOn P md ops Q S n l a w rs):goesOn P md ops Q S (n+1) l a w :=
 ⟨λh0=>absurd (hr ▸ h0) hne,hr ▸ h⟩
theorem goesOn.done {l:Array Bool} {a:Act} {w:World} (hr:Region.ready md ops l=[]) (h:Q .normal a w):∀ n,goesOn P md ops Q S n l a w
 | 0=>⟨hr,h⟩
 | _+1=>⟨λ_=>h,by rw[hr];simp⟩
def uJ (md:Region.Mode) (ops:Array Oper):Array Bool->List (Nat × List Nat)->Bool
 | _,[]=>true
 | l,(i,U) :: is=>Region.free md ops l i && (Region.ready md ops l).contains i && waits md ops i U && (U.all λu=>!l.getD u true) && uJ md ops (l.setIfInBounds i true) is
def nQ:Array Bool->List (Nat × List Nat)->Array Bool
 | l,[]=>l
 | l,(i,_) :: is=>nQ (l.setIfInBounds i true) is
def Takes (P:Program) (ops:Array Oper) (S:Array Bool->World->Prop):List (Nat × List Nat)->Act->(Act->Prop)->Prop
 | [],a,K=>K a
 | (i,U) :: is,a,K=>∃ oi v,ops[i]?=some oi/\YieldsIf P ops (λw=>∃ l',(∀ u∈U,l'.getD u true=false)/\S l' w) oi v a/\Takes P ops S is (a.put oi.dst v) K
theorem rZ {α:Type}:∀ {L:List α} {i:Nat} {x:α} {rest:List α},L.drop i=x :: rest->L[i]?=some x
 | [],_,_,_,h=>by rw[List.drop_nil] at h;cases h
 | y :: L,0,x,_,h=>by rw[List.drop_zero] at h;cases h;rfl
 | y :: L,i+1,x,_,h=>by rw[List.getElem?_cons_succ];exact rZ (L:=L) h
theorem kD {i:Nat} {o:Oper} {rest:List Oper} (h:ops.toList.drop i=o :: rest):ops[i]?=some o:=by
 rw[<-Array.getElem?_toList];exact rZ h
theorem Takes.val {i:Nat} {U:List Nat} {is:List (Nat × List Nat)} {a:Act} {K:Act->Prop} {o:Oper} {rest:List Oper} {v:Value} (hw:∀ w,(∃ l',(∀ u∈U,l'.getD u true=false)/\S l' w)->(execOp a.eval o).run P w=.ok (.value v) w) (h:Takes P ops S is (a.put o.dst v) K)
 (ho:ops.toList.drop i=o :: rest:=by rfl) (hg:Region.wanted o (yielded ops a.tmps)=true:=by rfl):Takes P ops S ((i,U) :: is) a K:=⟨o,v,kD ho,Or.inl ⟨hg,hw⟩,h⟩
theorem Takes.nil {a:Act} {K:Act->Prop} (h:K a):Takes P ops S [] a K:=h
theorem uK {is:List (Nat × List Nat)} (hSi:∀ p∈is,∀ l w,S (l.setIfInBounds p.1 true) w->S l w):∀ {l:Array Bool} {w:World},S (nQ l is) w->S l w:=by
 induction is with
 | nil=>exact λh=>h
 | cons p is ih =>
   intro l w h
   exact hSi p (List.mem_cons_self ..) l w (ih (λq hq=>hSi q (List.mem_cons_of_mem _ hq)) h)
theorem goesOn.takes (is:List (Nat × List Nat)) {n:Nat} {l:Array Bool} {a:Act} {w:World} (hS:S (nQ l is) w) (h:Takes P ops S is a λb=>goesOn P md ops Q S (n-is.length) (nQ l is) b w)
 (hSi:∀ p∈is,∀ l w,S (l.setIfInBounds p.1 true) w->S l w:=by exact λ_ _ _ _ h=>h) (hQ:∀ c d v a w,Q (.panic c) (a.put d v) w->Q (.panic c) a w:=by intro _ d _ _ _;cases d <;> exact λh=>h)
 (hok:(Region.noSelect ops && uJ md ops l is)=true:=by kernel_rfl) (hn:is.length<=n:=by decide):goesOn P md ops Q S n l a w:=by
 obtain⟨hs,hok⟩:=Bool.and_eq_true_iff.1 hok
 induction is generalizing n l a with
 | nil=>exact h
 | cons p is ih =>
   obtain⟨i,U⟩:=p
   obtain⟨oi,v,hi,hy,h⟩:=h
   unfold uJ at hok
   simp only[AsF] at hok
   obtain⟨⟨⟨⟨h1,h2⟩,h3⟩,h4⟩,h5⟩:=hok
   cases n with
   | zero=>simp at hn
   | succ n =>
     have hSi':∀ q∈is,∀ l w,S (l.setIfInBounds q.1 true) w->S l w:=λq hq=>hSi q (List.mem_cons_of_mem _ hq)
     refine goesOn.take U hi hs h1 h2 (λc a w=>hQ c _ _ a w) h3 h4 (hSi (i,U) (List.mem_cons_self ..)) hy (uK hSi' hS) (ih hS ?_ hSi' (Bool.and_eq_true_iff.2 ⟨hs,h5⟩) (by simpa using hn) h5)
     rw[AsJ,Nat.add_sub_add_right] at h
     exact h
theorem goesOn.one (i:Nat) {n:Nat} {l:Array Bool} {a:Act} {w:World} {o:Oper} {rest:List Oper}
 (h:∀ K':Act->World->Prop,Go.Shut (∀ b u,S (l.setIfInBounds i true) u->goesOn P md ops Q S n (l.setIfInBounds i true) b u->K' b u)->if Region.wanted o (yielded ops a.tmps)=true then Oper.wp P o a w K' Q else K' (a.put o.dst undef) w)
 (hr:Region.ready md ops l=[i]:=by kernel_rfl) (ho:ops.toList.drop i=o :: rest:=by rfl):goesOn P md ops Q S (n+1) l a w :=
 goesOn.each hr (by simp) (EachOn.cons (kD ho) h EachOn.nil)
theorem goesOn.two (i j:Nat) {n:Nat} {l:Array Bool} {a:Act} {w:World} {o o':Oper} {rest rest':List Oper}
 (h:∀ K':Act->World->Prop,Go.Shut (∀ b u,S (l.setIfInBounds i true) u->goesOn P md ops Q S n (l.setIfInBounds i true) b u->K' b u)->if Region.wanted o (yielded ops a.tmps)=true then Oper.wp P o a w K' Q else K' (a.put o.dst undef) w)
 (h':∀ K':Act->World->Prop,Go.Shut (∀ b u,S (l.setIfInBounds j true) u->goesOn P md ops Q S n (l.setIfInBounds j true) b u->K' b u)->if Region.wanted o' (yielded ops a.tmps)=true then Oper.wp P o' a w K' Q else K' (a.put o'.dst undef) w)
 (hr:Region.ready md ops l=[i,j]:=by kernel_rfl) (ho:ops.toList.drop i=o :: rest:=by rfl) (ho':ops.toList.drop j=o' :: rest':=by rfl):goesOn P md ops Q S (n+1) l a w :=
 goesOn.each hr (by simp) (EachOn.cons (kD ho) h (EachOn.cons (kD ho') h' EachOn.nil))
theorem goesOn.region {id:Nat} {a:Act} {w:World} (hm:P.follows .mixedOrders=true) (h:goesOn P .any ops Q S ops.size (Array.replicate ops.size false) a w.drew):(Code.region id ops true).wp P Q a w :=
 wp_region_any hm h.any
end
def TwoS (C:World->Prop) (k0:Nat) (D0:World->Prop) (k1:Nat) (D1:World->Prop) (l:Array Bool) (w:World):Prop:=C w/\(l.getD k0 true=false->D0 w)/\(l.getD k1 true=false->D1 w)
section
variable {C D0 D1 : World -> Prop} {k0 k1 : Nat} {l : Array Bool} {w : World} {U : List Nat}
theorem TwoS.less {i:Nat} (h0:i≠k0) (h1:i≠k1):∀ l w,TwoS C k0 D0 k1 D1 (l.setIfInBounds i true) w->TwoS C k0 D0 k1 D1 l w:=λl w h =>
 ⟨h.1,λe=>h.2.1 (by rw[getD_set_ne true h0];exact e),λe=>h.2.2 (by rw[getD_set_ne true h1];exact e)⟩
theorem TwoS.lesses {is:List (Nat × List Nat)} (h:(is.all λp=>p.1 != k0 && p.1 != k1)=true):∀ p∈is,∀ l w,TwoS C k0 D0 k1 D1 (l.setIfInBounds p.1 true) w->TwoS C k0 D0 k1 D1 l w:=λp hp=>by
 have:=List.all_eq_true.1 h p hp
 rw[AsF,AsV,AsV] at this
 exact TwoS.less this.1 this.2
theorem TwoS.any (h:∃ l',(∀ u∈U,l'.getD u true=false)/\TwoS C k0 D0 k1 D1 l' w):C w:=h.elim λ_ h=>h.2.1
theorem TwoS.d0 (h:∃ l',(∀ u∈U,l'.getD u true=false)/\TwoS C k0 D0 k1 D1 l' w) (hk:k0∈U):D0 w:=h.elim λ_ h=>h.2.2.1 (h.1 _ hk)
theorem TwoS.d1 (h:∃ l',(∀ u∈U,l'.getD u true=false)/\TwoS C k0 D0 k1 D1 l' w) (hk:k1∈U):D1 w:=h.elim λ_ h=>h.2.2.2 (h.1 _ hk)
theorem TwoS.of (hc:C w) (h0:D0 w) (h1:D1 w):TwoS C k0 D0 k1 D1 l w:=⟨hc,λ_=>h0,λ_=>h1⟩
theorem TwoS.of1 (hc:C w) (h0:l.getD k0 true=true) (h1:D1 w):TwoS C k0 D0 k1 D1 l w:=⟨hc,λe=>(by rw[h0] at e;cases e),λ_=>h1⟩
theorem TwoS.of2 (hc:C w) (h0:l.getD k0 true=true) (h1:l.getD k1 true=true):TwoS C k0 D0 k1 D1 l w:=⟨hc,λe=>(by rw[h0] at e;cases e),λe=>(by rw[h1] at e;cases e)⟩
end
open Go.RowKit
namespace Dm
theorem AlE {α:Type} {p:α->Bool}:∀ {L:List α} {j:Nat},j<(L.takeWhile p).length->∃ y,L[j]?=some y/\p y=true
 | [],j,h=>by simp at h
 | x :: L,j,h=>by
   rw[List.takeWhile_cons] at h
   split at h
   ·rename_i hp
    cases j with
    | zero=>exact⟨x,rfl,hp⟩
    | succ j =>
      rw[AsJ] at h
      obtain⟨y,hy,hq⟩:=AlE (p:=p) (L:=L) (j:=j) (by omega)
      exact⟨y,hy,hq⟩
   simp at h
theorem AbT {α:Type} {p:α->Bool}:∀ {L:List α} {y:α},L[(L.takeWhile p).length]?=some y->p y=false
 | [],y,h=>by simp at h
 | x :: L,y,h=>by
   rw[List.takeWhile_cons] at h
   split at h
   ·exact AbT (L:=L) (by simpa using h)
   rename_i hp
   have:x=y:=by simpa using h
   rw[<-this]
   exact Bool.not_eq_true _ ▸ hp
theorem uL {α:Type} (p:α->Bool) (L:List α):L.take (L.takeWhile p).length=L.takeWhile p:=by
 have h:L.takeWhile p++L.dropWhile p=L:=List.takeWhile_append_dropWhile
 have:=List.take_left (l₁:=L.takeWhile p) (l₂:=L.dropWhile p)
 rwa [h] at this
theorem nR {α:Type} (p:α->Bool) (L:List α):L.drop (L.takeWhile p).length=L.dropWhile p:=by
 have h:L.takeWhile p++L.dropWhile p=L:=List.takeWhile_append_dropWhile
 have:=List.drop_left (l₁:=L.takeWhile p) (l₂:=L.dropWhile p)
 rwa [h] at this
theorem ApB {α:Type} (p:α->Bool) (L:List α):(L.takeWhile p).length<=L.length:=by
 rw[<-uL,AsU];omega
theorem xX {L:List Dem} {x:Dem} (h:posOf L x.pt=0):put L x=L.take (L.takeWhile (low x.pt)).length++x :: L.drop (L.takeWhile (low x.pt)).length:=by
 unfold put
 rw[ArY (by rw[h];decide),uL,nR]
theorem AeH {L:List Dem} {x:Dem} (h:posOf L x.pt≠0):put L x=L:=by
 unfold put
 rw[ArZ h]
end Dm
def DemsOr (A:Option Addr) (L0 L:List Dm.Dem) (w:World) (e:Ending) (w':World):Prop:=∃ B d,e=.returned (.slice B L.length d)/\aJ.Row w' B L/\L.length<=d/\Below w.heap.size w w'/\((B=A/\L=L0)∨∀ a,B=some a->w.heap.size<=a.block)
theorem DemsOr.yes {A:Option Addr} {L0 L:List Dm.Dem} {w:World} {e:Ending} {w':World} (h:DemsOr A L0 L w e w'):DemsYes L w e w':=by
 obtain⟨B,d,h1,h2,h3,h4,-⟩:=h
 exact⟨B,d,h1,h2,h3,h4⟩
theorem DemsOr.of_own {A:Option Addr} {L0 L:List Dm.Dem} {w w':World} {base n:Nat} {v:Value} (h:w'.ownsRow base 138 aJ.m v n (aJ.all L)) (hn:n=L.length) (hb:Below w.heap.size w w') (hbase:w.heap.size<=base):DemsOr A L0 L w (.returned v) w':=by
 subst hn
 have hlt:=h.lt
 obtain⟨-,B,d,rfl,hc,hR⟩:=Lies.Row.of_own (E:=aJ) h
 exact⟨B,d,rfl,hR,hc,hb,.inr λa ha=>by
  subst ha
  exact ArS hbase (hlt a.block rfl).1⟩
theorem AoB {A:Option Addr} {L0 L:List Dm.Dem} {x:Dm.Dem} {j base:Nat} {w w':World} {v:Value} (h:w'.ownsRow base 138 aJ.m v (0+j+1+(L.length-j)) ([]++aJ.all (L.take j)++aJ.all [x]++aJ.all (L.drop j))) (hj:j<=L.length) (hb:Below w.heap.size w w') (hbase:w.heap.size<=base):DemsOr A L0 (L.take j++x :: L.drop j) w (.returned v) w':=by
 have e:[]++aJ.all (L.take j)++aJ.all [x]++aJ.all (L.drop j)=aJ.all (L.take j++x :: L.drop j):=by
  rw[List.nil_append,aJ.all_append,aJ.all_one,aJ.all_cons x (L.drop j),List.append_assoc]
 rw[e] at h
 exact DemsOr.of_own h (by rw[ArV,AsJ,AsU,List.length_drop];omega) hb hbase
theorem bM {w:World} {g:Nat} {a b:Value} {t:TypeId} (h:w.heap[g]?=some (.cells #[a,b] t (0,0))):w.cell? ⟨g,0,none⟩=some a/\w.cell? ⟨g,1,none⟩=some b:=⟨AsY w g 0 _ t _ h,AsY w g 1 _ t _ h⟩
theorem xY (A:Option Addr) (c:Nat) (L:List Dm.Dem) (x:Dm.Dem) (w:World) (h:aJ.Row w A L) (hl:L.length<=1000) (hc:L.length<=c) :
 Calls Tryz.prog 148 #[.slice A L.length c,AbN x] w (DemsOr A L (Dm.put L x) w):=by
 have X0:=hid ((AtB w).alloc (ArR _) (kA x))
 have RX:=hid (AsW w (kA x))
 have HR:=hid (h.below rfl X0.out)
 have CP:=hid (eM A c L x.pt _ HR.out (by omega))
 have K0:=bM RX.out
 obtain⟨x0,x1⟩:=K0
 by_cases h0:Dm.posOf L x.pt=0
 ·rw[h0] at CP
  have P:=hid (Dm.xX h0)
  have HK:=hid (λy=>(λh=>Dm.AbT (p:=Dm.low x.pt) (L:=L) (y:=y) h))
  have HK2:=hid (λ(j:Nat) (h:j<(L.takeWhile (Dm.low x.pt)).length)=>Dm.AlE (p:=Dm.low x.pt) (L:=L) h)
  have hkl:=Dm.ApB (Dm.low x.pt) L
  generalize (L.takeWhile (Dm.low x.pt)).length=k at P HK HK2 hkl
  clear h h0
  go_enter Tryz.func148,Tryz.ntmps148
  go_wp2_with fail
  generalize w.alloc (kA x)=w1 at X0 RX HR CP x0 x1 ⊢
  refine CP.out.mono ?_;rintro e w2 ⟨rfl,hb2⟩
  have B2:=hid hb2
  clear hb2 x0 x1
  go_wp2_with fail
  go_loopw [5] (λv w'=>∃ j:Nat,j<=k/\v=.int .i64 j/\Below w1.heap.size w1 w') (λv _=>L.length-(intOf v).toNat)
  case atStart=>exact⟨0,AsD _,rfl,B2.out⟩
  case round =>
   obtain⟨j,hj,rfl,hb⟩:=hrel
   have HB:=hid hb
   obtain⟨x0,x1⟩:=bM ((hb.block _ (ArL RX.out).1).trans RX.out)
   have gx:=(ArL ((hb.block _ (ArL RX.out).1).trans RX.out)).1
   by_cases hjk:j<k
   ·obtain⟨y,hy,hlow⟩:=HK2.out j hjk
    have hlt:=(ArM hy).1
    obtain⟨b,o,rfl,hbb,on⟩:=(HR.out.below rfl hb).at hlt
    rw[(ArM hy).2] at on
    obtain⟨c0,c1⟩:=eV on
    rw[show j*aJ.m=j*2 from rfl] at c0 c1
    obtain⟨D1,i0,i1⟩:=ArK (show j<L.length by omega)
    have D2:decide (y.pt<x.pt)=true:=hlow
    clear hb hy hlow on
    go_upto_region 4 with fail
    go_quiet (fail)
    go_wp2
    go_roundw
    case rel=>exact⟨j+1,by omega,by go_num,aH HB.out _⟩
    case measure=>simp[intOf];omega
   obtain rfl:j=k:=by omega
   have HB6:=hid (λq=>aH HB.out q)
   have HE:=hid hb
   have i0:(0:Int)<=(j:Int):=ArT j
   have ic:(j:Int)<=(c:Int):=by omega
   have il:(j:Int)<=(L.length:Int):=by omega
   have lc:(L.length:Int)<=(c:Int):=by omega
   have ic':j<=c:=by omega
   clear hb hjk
   by_cases hlt:j<L.length
   focus
    have hy:=ArN hlt
    obtain⟨b,o,rfl,hbb,on⟩:=(HR.out.below rfl HE.out).at hlt
    have D2:decide ((L[j]).pt<x.pt)=false:=HK.out _ hy
    generalize L[j]=y at hy on D2
    obtain⟨c0,c1⟩:=eV on
    rw[show j*aJ.m=j*2 from rfl] at c0 c1
    have D1:decide ((j:Int)<(L.length:Int))=true:=aC (by omega)
    have i1:(j:Int)<(L.length:Int):=by omega
    clear hy on
    go_upto_region 4 with fail
    go_quiet (fail)
    clear c0 c1 D2 hbb i1
   rotate_left
   focus
    have D1:decide ((j:Int)<(L.length:Int))=false:=aB (by omega)
    go_upto_region 4 with fail
    go_quiet (fail)
   all_goals
    go_wp2_with fail
    go_upto_region 6 with fail
    clear D1 x0 x1 gx hlt
    have B6:=hid (HB6.out nq)
    generalize wr.drewN nq=w6 at B6 ⊢
    have R6:=hid ((B6.out.block _ (ArL RX.out).1).trans RX.out)
    have KX:=hid (λW (hW:Below w6.heap.size w6 W)=>bM ((hW.block _ (ArL R6.out).1).trans R6.out))
    have RW:=hid (λW (hW:Below w6.heap.size w6 W)=>HR.out.below rfl (B6.out.trans (hW.mono B6.out.size)))
    have B0:=hid (AtB w6).drew
    obtain⟨i0',hi,hz0,hz1,hz2⟩:=info_parts nO
    refine goesOn.region (S:=λ_ W=>Below w6.heap.size w6 W) (by kernel_rfl) ?_
    refine goesOn.takes [(1,[]),(2,[]),(3,[]),(5,[]),(8,[]),(9,[]),(10,[])] B0.out ?_
    repeat (refine Takes.val (v:=?_) ?_ ?_;rotate_left;(focus (intro W hW;obtain⟨k0,k1⟩:=KX.out W (hW.elim λ_ h=>h.2);go_simp;try with_reducible rfl));(try simp only[Act.put,ArO,ArP,ArQ]))
    refine Takes.nil ?_
    have EO:=hid (World.ownsRow.drew (gM w6 rfl (ArR w6.heap.size)))
    have EX:=hid ((AtB w6).drew.alloc (ArR w6.heap.size) (.cells #[] 138))
    refine goesOn.two 0 6 (λK hK=>?_) λK hK=>?_
    focus
     go_simp
     refine hK.out _ _ EX.out ?_
     clear hK K
     (try simp only[Act.put,ArO,ArP,ArQ])
     refine goesOn.two 4 6 (λK hK=>?_) λK hK=>?_
     focus
      refine aK aJ (by rfl) (.tmp 28) (.tmp 31) 89 (by rfl) w6.heap.size 138 i0' _ 16 Tryz.underlying89 hi hz0 hz1 hz2 rfl _ 0 [] (by rfl) EO.out _ _ _ (L.take j) (by rfl) (by rw[AsU];omega) (Lies.Row.take aJ (RW.out _ EX.out) j) (by unfold maxLen;omega) (by omega) EX.out.size ?_
      intro v1 w3 ho hg
      have B3:=EX.out.grown hg EX.out.size λk hk=>(EO.out.lt k hk).1
      refine hK.out _ _ B3 ?_
      clear hK K
      (try simp only[Act.put,ArO,ArP,ArQ])
      refine goesOn.one 6 λK hK=>?_
      go_simp
      have HX:=aJ.row_lone (x:=x) (AsW w3 (kA x))
      have B5:=B3.alloc B3.size (kA x)
      replace ho:=ho.alloc (kA x)
      refine hK.out _ _ B5 ?_
      clear hK K hg B3
     rotate_left
     focus
      go_simp
      have E6:=EX.out.alloc EX.out.size (kA x)
      refine hK.out _ _ E6 ?_
      clear hK K
      (try simp only[Act.put,ArO,ArP,ArQ])
      refine goesOn.one 4 λK hK=>?_
      refine aK aJ (by rfl) (.tmp 28) (.tmp 31) 89 (by rfl) w6.heap.size 138 i0' _ 16 Tryz.underlying89 hi hz0 hz1 hz2 rfl _ 0 [] (by rfl) (EO.out.alloc (kA x)) _ _ _ (L.take j) (by rfl) (by rw[AsU];omega) (Lies.Row.take aJ (RW.out _ E6) j) (by unfold maxLen;omega) (by omega) E6.size ?_
      intro v1 w3 ho hg
      have hx:(w6.drew.alloc (.cells #[] 138)).heap.size=w6.heap.size+1:=by simp
      have HX:=aJ.row_lone (x:=x) ((hg.block (w6.heap.size+1) (by simp) (λh=>by simp[Value.ownBlock] at h)).trans (hx ▸ AsW (w6.drew.alloc (.cells #[] 138)) (kA x)))
      have B5:=E6.grown hg E6.size λk hk=>(EO.out.lt k hk).1
      refine hK.out _ _ B5 ?_
      clear hK K hg E6 hx
    rotate_left 2
    focus
     go_simp
     have E6:=(AtB w6).drew.alloc (ArR w6.heap.size) (kA x)
     refine hK.out _ _ E6 ?_
     clear hK K
     (try simp only[Act.put,ArO,ArP,ArQ])
     refine goesOn.one 0 λK hK=>?_
     go_simp
     have E7:=E6.alloc E6.size (.cells #[] 138)
     refine hK.out _ _ E7 ?_
     clear hK K
     (try simp only[Act.put,ArO,ArP,ArQ])
     refine goesOn.one 4 λK hK=>?_
     have EP:=gM (base:=w6.heap.size) (g:=w6.heap.size+1) (w6.drew.alloc (kA x)) (by simp) (by simp)
     refine aK aJ (by rfl) (.tmp 28) (.tmp 31) 89 (by rfl) w6.heap.size 138 i0' _ 16 Tryz.underlying89 hi hz0 hz1 hz2 rfl _ 0 [] (by rfl) EP _ _ _ (L.take j) (by rfl) (by rw[AsU];omega) (Lies.Row.take aJ (RW.out _ E7) j) (by unfold maxLen;omega) (by omega) E7.size ?_
     intro v1 w3 ho hg
     have HX:=aJ.row_lone (x:=x) ((hg.block w6.heap.size (by simp;omega) (λh=>by simp[Value.ownBlock] at h)).trans ((Below.heap_alloc _ _ _ (by simp)).trans (AsW w6.drew (kA x))))
     have B5:=E7.grown hg E7.size λk hk=>(EP.lt k hk).1
     refine hK.out _ _ B5 ?_
     clear hK K hg E6 E7 EP
    all_goals
     (try simp only[Act.put,ArO,ArP,ArQ])
     refine goesOn.one 7 λK hK=>?_
     refine aK aJ (by rfl) (.tmp 32) (.tmp 34) 89 (by rfl) w6.heap.size 138 i0' _ 16 Tryz.underlying89 hi hz0 hz1 hz2 rfl v1 (0+j) ([]++aJ.all (L.take j)) (by rfl) ho _ 1 1 [x] (by rfl) rfl HX (by unfold maxLen;omega) (by omega) B5.size ?_
     intro v2 w7 ho2 hg2
     have B7:=B5.grown hg2 B5.size λk hk=>(ho.lt k hk).1
     refine hK.out _ _ B7 ?_
     clear hK K
     (try simp only[Act.put,ArO,ArP,ArQ])
     refine goesOn.one 11 λK hK=>?_
     refine aK aJ (by rfl) (.tmp 35) (.tmp 38) 89 (by rfl) w6.heap.size 138 i0' _ 16 Tryz.underlying89 hi hz0 hz1 hz2 rfl v2 (0+j+1) ([]++aJ.all (L.take j)++aJ.all [x]) (by rfl) ho2 _ _ _ (L.drop j) (by rfl) List.length_drop (by first|exact(RW.out _ B7).low hc j|exact(RW.out _ B7).low' hc j) (by unfold maxLen;omega) (by omega) B7.size ?_
     intro v3 w8 ho3 hg3
     have B8:=hid (B7.grown hg3 B7.size λk hk=>(ho2.lt k hk).1)
     refine hK.out _ _ B8.out ?_
     have HO:=hid ho3
     clear hK K ho hg2 ho2 hg3 ho3 HX B5 B7
     (try simp only[Act.put,ArO,ArP,ArQ])
     refine goesOn.one 12 λK hK=>?_
     go_simp
     refine hK.out _ _ B8.out ?_
     clear hK K
     (try simp only[Act.put,ArO,ArP,ArQ])
     refine goesOn.done (by kernel_rfl) ?_ _
     go_wp2_with fail
     all_goals
      go_ret
      rw[P.out]
      exact AoB HO.out (by omega) (X0.out.trans ((B6.out.trans (B8.out.mono B6.out.size)).mono X0.out.size)) (ArS X0.out.size B6.out.size)
 have P:=hid (Dm.AeH h0)
 have E:(Dm.posOf L x.pt != 0)=true:=by rw[AsV];exact h0
 rw[P.out]
 generalize Dm.posOf L x.pt=n at CP E
 clear h h0
 go_enter Tryz.func148,Tryz.ntmps148
 go_wp2_with fail
 refine CP.out.mono ?_;rintro e w2 ⟨rfl,hb2⟩
 have B2:=hid (X0.out.trans (hb2.mono X0.out.size))
 have R2:=hid (HR.out.below rfl hb2)
 clear hb2 x0 x1
 go_wp2
 go_ret
 exact⟨A,c,rfl,R2.out,hc,B2.out,.inl ⟨rfl,rfl⟩⟩
end Go.Proofs.YtjofpclmbjpgjaaGreat
