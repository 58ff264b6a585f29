/- Lemmas. -/
import Derived.Test.YtjofpclmbjpgjaaGreatMk14
import Derived.Test.YtjofpclmbjpgjaaGreatMk17
set_option maxHeartbeats 8000000
set_option maxRecDepth 100000
namespace Go.Proofs.YtjofpclmbjpgjaaGreat
open Lib (hid)
open Go.RowKit
def StpsNew (L:List Wk.Stp) (w:World) (e:Ending) (w':World):Prop:=∃ B d,e=.returned (.slice B L.length d)/\aE.Row w' B L/\L.length<=d/\Below w.heap.size w w'/\∀ a,B=some a->w.heap.size<=a.block
theorem StpsNew.of_own {L:List Wk.Stp} {w w':World} {base n:Nat} {v:Value} (h:w'.ownsRow base 129 aE.m v n (aE.all L)) (hn:n=L.length) (hb:Below w.heap.size w w') (hbase:w.heap.size<=base):StpsNew L w (.returned v) w':=by
 subst hn
 have hlt:=h.lt
 obtain⟨-,B,d,rfl,hc,hR⟩:=Lies.Row.of_own (E:=aE) h
 exact⟨B,d,rfl,hR,hc,hb,λa ha=>by
  subst ha
  exact ArS hbase (hlt a.block rfl).1⟩
def AmJ (w:World) (e:Ending) (w':World):Prop:=∃ cap,e=.returned (.slice (some ⟨w.heap.size,0,none⟩) 0 cap)/\w'.ownsRow w.heap.size 129 3 (.slice (some ⟨w.heap.size,0,none⟩) 0 cap) 0 []/\Below w.heap.size w w'
theorem AcO (n:Nat) (w:World) (h0:0<n) (hl:n<=1000) :
 Calls Tryz.prog 137 #[.slice none 0 0,.int .i64 n] w (AmJ w):=by
 --[
 obtain⟨i0,hi,hz0,hz1,hz2⟩:=info_parts fR
 have hr:=λty=>Lib.run_append_nil_zeros (P:=Tryz.prog) w 86 3 ty 129 i0 (.agg #[.int .i64 0,.int .i64 0,.int .i64 0]) .i64 .i64 Tryz.underlying86 Tryz.underlying3 hi hz0 n h0 (by omega) (by omega) (by rw[hz2];omega)
 have hge:=grownCap_ge w n 0 129
 have hmx:=grownCap_le_maxLen w n 0 129 (by unfold maxLen;omega)
 generalize grownCap w n 0 129=G at hr hge hmx
 have hsz:(Builtin.zeroCells (Value.agg #[.int .i64 0,.int .i64 0,.int .i64 0]).cells n++Builtin.zeroCells (Value.agg #[.int .i64 0,.int .i64 0,.int .i64 0]).cells (G-n)).size=G*3:=by
  rw[Array.size_append,size_zeroCells,size_zeroCells,show (Value.agg #[.int .i64 0,.int .i64 0,.int .i64 0]).cells.size=3 from rfl,<-Nat.add_mul]
  congr 1;omega
 generalize Builtin.zeroCells (Value.agg #[.int .i64 0,.int .i64 0,.int .i64 0]).cells n++Builtin.zeroCells (Value.agg #[.int .i64 0,.int .i64 0,.int .i64 0]).cells (G-n)=Z at hr hsz
 have HB:=hid ((AtB w).drew.alloc (ArR _) (.cells Z 129))
 have HO:=hid (show (w.drew.alloc (.cells Z 129)).ownsRow w.heap.size 129 3 (.slice (some ⟨w.heap.size,0,none⟩) 0 G) 0 [] from
  ⟨rfl,.inr ⟨w.heap.size,G,Z,rfl,ArR _,AsW w.drew _,AsD _,hmx,hsz,by simp⟩⟩)
 have D1:decide ((n:Int)<0)=false:=aB (by omega)
 have D2:decide ((0:Int)<(n:Int))=true:=aC (by omega)
 have HG:(G:Int)<=9223372036854775807:=by unfold maxLen at hmx;omega
 clear hsz hmx hz1 hz2 hi
 go_enter Tryz.func137,Tryz.ntmps137
 go_wp2_with (at_builtin;refine Lib.wpList_append_run _ rfl _ _ _ _ rfl _ _ rfl rfl _ _ (hr _) ?_)
 go_ret
 exact⟨G,rfl,HO.out,HB.out⟩
 --]
def cB (Ls:Nat->List Wk.Stp):Nat->List Wk.Stp
 | 0=>[]
 | k+1=>cB Ls k++Ls k
theorem yU (Ls:Nat->List Wk.Stp):∀ {k m:Nat},k<=m->(cB Ls k).length<=(cB Ls m).length
 | k, 0, h => by obtain rfl:k=0:=by omega
                 exact ArR _
 | k, m+1,h=>by
   rcases Nat.lt_or_ge m k with h2|h2
   ·obtain rfl:k=m+1:=by omega
    exact ArR _
   have:=yU Ls h2
   rw[show cB Ls (m+1)=cB Ls m++Ls m from rfl,ArV]
   omega
theorem vD (m:Nat) (g:Nat) (As:Nat->Option Addr) (cs:Nat->Nat) (Ls:Nat->List Wk.Stp) (w:World) (hg:g<w.heap.size)
 (hC:∀ k,k<m->w.cell? ⟨g,k,none⟩=some (.slice (As k) (Ls k).length (cs k))) (hR:∀ k,k<m->aE.Row w (As k) (Ls k)) (hm:m<=1000) (h0:0<(cB Ls m).length) (hl:(cB Ls m).length<=1000) :
 Calls Tryz.prog 103 #[.slice (some ⟨g,0,none⟩) m m] w (StpsNew (cB Ls m) w):=by
 --[
 have B0:=hid (AtB w)
 have KC:=hid (λW (hW:Below w.heap.size w W) k (hk:k<m)=>(hW.cell (p:=⟨g,k,none⟩) hg).trans (hC k hk))
 have KR:=hid (λW (hW:Below w.heap.size w W) k (hk:k<m)=>(hR k hk).below rfl hW)
 have KL:=hid (λk (hk:k<=m)=>yU Ls hk)
 clear hC hR
 obtain⟨i0,hi,hz0,hz1,hz2⟩:=info_parts fR
 go_enter Tryz.func103,Tryz.ntmps103
 go_wp2_with fail
 go_loopw [3,5,11] (λv1 _ v2 w'=>∃ k:Nat,k<=m/\v1=.int .i64 ((cB Ls k).length:Int)/\v2=.int .i64 k/\Below w.heap.size w w') (λ_ _ v2 _=>m-(intOf v2).toNat)
 case atStart=>exact⟨0,AsD _,rfl,rfl,B0.out⟩
 case round =>
  obtain⟨k,hk,rfl,rfl,hb⟩:=hrel
  have HB:=hid hb
  clear hb
  by_cases hlt:k<m
  ·have c0:=KC.out _ HB.out k hlt
   have hk1:=KL.out (k+1) hlt
   have hk0:=KL.out k hk
   have HL:=hid (show (cB Ls (k+1)).length=(cB Ls k).length+(Ls k).length from by rw[show cB Ls (k+1)=cB Ls k++Ls k from rfl,ArV])
   obtain⟨d1,i0,i1⟩:=ArK (show k<m by omega)
   have q:IntKind.i64.wrap (((cB Ls k).length:Int)+((Ls k).length:Int))=((cB Ls (k+1)).length:Int):=by
    have:=HL.out
    rw[IntWalk.i64_in _ (by omega)];omega
   have D2:decide (((cB Ls (k+1)).length:Int)<0)=false:=aB (by omega)
   clear hk1 hk0
   go_wp2
   go_roundw
   case rel=>exact⟨k+1,by omega,rfl,by go_num,HB.out⟩
   case measure=>simp[intOf];omega
  obtain rfl:k=m:=by omega
  have d1:decide ((k:Int)<(k:Int))=false:=aB (by omega)
  have CG:=hid (AcO (cB Ls k).length wr h0 hl)
  have HN:=hid h0
  clear h0
  go_wp2_with fail
  refine CG.out.mono ?_;rintro e w2 ⟨cap,rfl,ho,hb2⟩
  have O2:=hid (show w2.ownsRow wr.heap.size 129 3 (.slice (some ⟨wr.heap.size,0,none⟩) 0 cap) (cB Ls 0).length (aE.all (cB Ls 0)) from ho)
  have B2:=hid (HB.out.trans (hb2.mono HB.out.size))
  have S2:=hid hb2.size
  have SZ:=hid HB.out.size
  clear ho hb2 CG
  go_wp2_with fail
  generalize wr.heap.size=base at O2 S2 SZ ⊢
  go_loopw [6,8,27] (λv1 _ v2 w'=>∃ j:Nat,j<=k/\v2=.int .i64 j/\w'.ownsRow base 129 3 v1 (cB Ls j).length (aE.all (cB Ls j))/\base<=w'.heap.size/\Below w.heap.size w w') (λ_ _ v2 _=>k-(intOf v2).toNat)
  case atStart=>exact⟨0,AsD _,rfl,O2.out,S2.out,B2.out⟩
  case round =>
   obtain⟨j,hj,rfl,ho,hs,hb⟩:=hrel
   have HO:=hid ho
   have HB3:=hid hb
   have HS3:=hid hs
   clear ho hb hs
   by_cases hjt:j<k
   ·have c0:=KC.out _ HB3.out j hjt
    have hk1:=KL.out (j+1) hjt
    have HL:=hid (show (cB Ls (j+1)).length=(cB Ls j).length+(Ls j).length from by rw[show cB Ls (j+1)=cB Ls j++Ls j from rfl,ArV])
    have HE:=hid (show aE.all (cB Ls (j+1))=aE.all (cB Ls j)++aE.all (Ls j) from by rw[show cB Ls (j+1)=cB Ls j++Ls j from rfl,aE.all_append])
    have hsum:(cB Ls j).length+(Ls j).length<=1000:=by have:=HL.out;omega
    have d1:decide ((j:Int)<(k:Int))=true:=aC (by omega)
    have i0':(0:Int)<=(j:Int):=ArT j
    have i1:(j:Int)<(k:Int):=by omega
    clear hk1
    go_wp2_with (at_builtin;refine aZ aE rfl (.tmp 31) (.tmp 32) 86 rfl base 129 i0 _ 24 Tryz.underlying86 hi hz0 hz1 hz2 rfl _ (cB Ls j).length (aE.all (cB Ls j)) rfl HO.out (As j) (Ls j).length (cs j) (Ls j) rfl rfl (KR.out _ HB3.out j hjt) (by omega) (by omega) HS3.out ?_;intro v4 w4 hown4 hg4)
    have HB4:=hid (Below.grown HB3.out hg4 HB3.out.size (λb hb=>ArS SZ.out (HO.out.lt b hb).1))
    have HS4:=hid (ArS HS3.out hg4.size)
    have HO4:=hid (show w4.ownsRow base 129 3 v4 (cB Ls (j+1)).length (aE.all (cB Ls (j+1))) from by rw[HL.out,HE.out];exact hown4)
    clear hown4 hg4
    go_wp2
    go_roundw
    case rel=>exact⟨j+1,by omega,by go_num,HO4.out,HS4.out,HB4.out⟩
    case measure=>simp[intOf];omega
   obtain rfl:j=k:=by omega
   have d1:decide ((j:Int)<(j:Int))=false:=aB (by omega)
   go_wp2
   go_ret
   exact StpsNew.of_own HO.out rfl HB3.out SZ.out
 --]
theorem mK (n:Int) (w:World) (hn:0<=n/\n<=2) :
 Calls Tryz.prog 107 #[.int .i64 n] w λe w'=>e=.returned (.int .i64 (3-n))/\w'=w:=by
 --[
 have q:IntKind.i64.wrap (3-n)=3-n:=by rw[IntWalk.i64_in _ (by omega)]
 go_enter Tryz.func107,Tryz.ntmps107
 go_wp2
 go_ret
 exact⟨rfl,rfl⟩
 --]
theorem yV (A:Option Addr) (c:Nat) (L:List Int) (n:Int) (w:World) (h:aF.Row w A L) (hl:L.length<=1000000) :
 Calls Tryz.prog 175 #[.slice A L.length c,.int .i64 n] w λe w'=>∃ i:Int,e=.returned (.int .i64 i)/\decide (0<=i)=L.any (λy=>decide (y=n))/\w'=w:=by
 --[
 have HR:=hid h
 clear h
 go_enter Tryz.func175,Tryz.ntmps175
 go_wp2_with fail
 go_loopw [5,8] (λ_ v8 w'=>∃ j:Nat,j<=L.length/\v8=.int .i64 j/\L.any (λy=>decide (y=n))=(L.drop j).any (λy=>decide (y=n))/\w'=w) (λ_ v8 _=>L.length-(intOf v8).toNat)
 case atStart=>exact⟨0,AsD _,rfl,rfl,rfl⟩
 case round =>
  obtain⟨j,hj,rfl,hP,rfl⟩:=hrel
  have P:=hid hP
  clear hP
  by_cases hlt:j<L.length
  ·have hx:=ArN hlt
   obtain⟨b,o,rfl,gb,on⟩:=HR.out.at hlt
   generalize L[j]=x at hx on
   have c0:=eU on
   rw[show j*aF.m=j from Nat.mul_one j] at c0
   have P1:=yA hx n
   obtain⟨d1,i0,i1⟩:=ArK (show j<L.length by omega)
   clear on hx
   by_cases hxn:x=n
   ·have E:(n == x)=true:=by rw[beq_iff_eq];exact hxn.symm
    have P2:=hid (show L.any (λy=>decide (y=n))=true from by rw[P.out,P1,decide_eq_true hxn];rfl)
    have D0:decide ((0:Int)<=(j:Int))=true:=decide_eq_true i0
    clear hxn P1
    go_wp2
    go_ret
    exact⟨(j:Int),rfl,by rw[P2.out];exact decide_eq_true i0,rfl⟩
   have E:(n == x)=false:=by rw[ArU];exact λe=>hxn e.symm
   have P2:=hid (show L.any (λy=>decide (y=n))=(L.drop (j+1)).any (λy=>decide (y=n)) from by rw[P.out,P1,decide_eq_false hxn,Bool.false_or])
   clear hxn P1
   go_wp2
   go_roundw
   case rel=>exact⟨j+1,by omega,by go_num,P2.out,trivial⟩
   case measure=>simp[intOf];omega
  obtain rfl:j=L.length:=by omega
  have d1:decide ((L.length:Int)<(L.length:Int))=false:=aB (by omega)
  have P2:=hid (show L.any (λy=>decide (y=n))=false from by rw[P.out,List.drop_length];rfl)
  go_wp2
  go_ret
  exact⟨-1,rfl,by rw[P2.out];decide,rfl⟩
 --]
theorem AhV (A:Option Addr) (c:Nat) (L:List Int) (n:Int) (w:World) (h:aF.Row w A L) (hl:L.length<=1000000) :
 Calls Tryz.prog 159 #[.slice A L.length c,.int .i64 n] w λe w'=>e=.returned (.bool (L.any (λy=>decide (y=n))))/\w'=w:=by
 --[
 have HC:=hid (yV A c L n w h hl)
 clear h
 generalize L.any (λy=>decide (y=n))=q at HC ⊢
 go_enter Tryz.func159,Tryz.ntmps159
 go_wp2_with fail
 refine HC.out.mono ?_;rintro e w' ⟨i,rfl,h1,rfl⟩
 go_wp2
 go_ret
 exact⟨rfl,rfl⟩
 --]
end Go.Proofs.YtjofpclmbjpgjaaGreat
namespace Go.Proofs.YtjofpclmbjpgjaaGreat.Fl
open Lib (hid)
open Go Pl Wk
def asked (p:Plan) (q f:Int) (l:List Dm.Dem):List Dm.Dem:=if position p ⟨q,f,0⟩=0 then l else Dm.put l ⟨q,3-position p ⟨q,f,0⟩⟩
def turned (p:Plan) (q f:Int) (l:List Dm.Dem):Bool:=decide (position p ⟨q,f,0⟩ ≠ 0) && decide (Dm.posOf (Dm.put l ⟨q,3-position p ⟨q,f,0⟩⟩) q≠position p ⟨q,f,0⟩)
def go (p:Plan) (own:List Stp):Nat->Int->Int->G->G
 | 0,_,_,g=>g
 | k+1,s,e,g =>
   if ends_ p own s e g then g
   else if 0<=signal p (next p s e).1 (next p s e).2.1 then { g with seen:=g.seen++[(next p s e).1],fl:=g.fl++[signal p (next p s e).1 (next p s e).2.1] }
   else if turned p (next p s e).1 (next p s e).2.1 g.pts then { g with seen:=g.seen++[(next p s e).1],pts:=asked p (next p s e).1 (next p s e).2.1 g.pts }
   else(outs p (next p s e).1 (next p s e).2.1).foldl (λg x=>go p own k (next p s e).1 x.t g) { g with seen:=g.seen++[(next p s e).1],pts:=asked p (next p s e).1 (next p s e).2.1 g.pts }
def sh (l0:List Int) (g:G):G:={ g with fl:=g.fl.foldl put l0 }
section
variable {p : Plan} {own : List Stp} {k : Nat} {s e q f : Int} {ok : Bool} {g : G}
theorem go_ends (hE:ends_ p own s e g=true):go p own (k+1) s e g=g:=by unfold go;rw[ArZ hE]
variable (hn : next p s e = (q, f, ok)) (hE : ends_ p own s e g = false)
include hn hE
theorem go_sig (hx:0<=signal p q f):go p own (k+1) s e g={ g with seen:=g.seen++[q],fl:=g.fl++[signal p q f] }:=by
 unfold go
 rw[ArY (by rw[hE];decide),hn]
 simp only
 rw[ArZ hx]
theorem go_turn (hx:¬ 0<=signal p q f) (ht:turned p q f g.pts=true):go p own (k+1) s e g={ g with seen:=g.seen++[q],pts:=asked p q f g.pts }:=by
 unfold go
 rw[ArY (by rw[hE];decide),hn]
 simp only
 rw[ArY hx,ArZ ht]
theorem go_goes (hx:¬ 0<=signal p q f) (ht:turned p q f g.pts=false):go p own (k+1) s e g=(outs p q f).foldl (λg x=>go p own k q x.t g) { g with seen:=g.seen++[q],pts:=asked p q f g.pts }:=by
 conv=>lhs;unfold go
 rw[ArY (by rw[hE];decide),hn]
 simp only
 rw[ArY hx,ArY (by rw[ht];decide)]
end
theorem AeP (p:Plan) (own:List Stp) (s e:Int) (g:G) (l0:List Int):ends_ p own s e (sh l0 g)=ends_ p own s e g:=rfl
theorem AeQ {p:Plan} {own:List Stp} (k:Nat) {s e:Int} (g:G) (h:(next p s e).2.2=false):on p own k s e g=g:=by
 cases k with
 | zero=>rfl
 | succ k =>
   unfold on
   rw[ArZ (by unfold ends_;rw[h];rfl)]
theorem position_leg {p:Plan} {q f:Int} (hf:0<=f):position p ⟨q,f,0⟩=if isPoint p q then f else 0:=by
 unfold position
 simp only
 rw[show max (max f 0) 0=f by omega]
theorem AeR {p:Plan} {s e:Int} (h:endOf p s e=none):(next p s e).2.2=false:=by unfold next;rw[h]
theorem yW (p:Plan) (own:List Stp) (hall:∀ s e,(next p s e).2.1=1∨(next p s e).2.1=2∨(next p s e).2.1=0):∀ (k:Nat) (s e:Int) (g:G) (l0:List Int),Dm.Good g.pts->Dm.Good (go p own k s e g).pts/\sh l0 (go p own k s e g)=on p own k s e (sh l0 g)
 | 0,_,_,g,_,hg=>⟨hg,rfl⟩
 | k + 1, s,e,g,l0,hg=>by
   by_cases hE:ends_ p own s e g=true
   ·rw[go_ends hE]
    refine⟨hg,?_⟩
    conv=>rhs;unfold on
    rw[ArZ (by rw[AeP];exact hE)]
   have hE':ends_ p own s e g=false:=Bool.eq_false_iff.2 hE
   have hf:=hall s e
   generalize hn:next p s e=w at hf
   obtain⟨q,f,ok⟩:=w
   simp only at hf
   have hon:on p own (k+1) s e (sh l0 g)=if 0<=signal p q f then { sh l0 g with seen:=g.seen++[q],fl:=put (sh l0 g).fl (signal p q f) }
    else if isPoint p q=false then on p own k q (1-f) { sh l0 g with seen:=g.seen++[q] }
    else if f=0 then on p own k q 2 (on p own k q 1 { sh l0 g with seen:=g.seen++[q] })
    else if Dm.posOf g.pts q=f then on p own k q 0 { sh l0 g with seen:=g.seen++[q] }
    else if Dm.posOf g.pts q=0 then { sh l0 g with seen:=g.seen++[q],pts:=Dm.put g.pts ⟨q,3-f⟩ }
    else { sh l0 g with seen:=g.seen++[q] }:=by
    conv=>lhs;unfold on
    rw[ArY (by rw[AeP,hE'];decide),hn]
    rfl
   rw[hon]
   by_cases hx:0<=signal p q f
   ·rw[go_sig hn hE' hx,ArZ hx]
    refine⟨hg,?_⟩
    unfold sh
    simp only[List.foldl_append,List.foldl_cons,List.foldl_nil]
   rw[ArY hx]
   by_cases hp:isPoint p q=false
   ·have h0:position p ⟨q,f,0⟩=0:=by rw[position_leg (by omega),hp];rfl
    have ht:turned p q f g.pts=false:=by unfold turned;rw[decide_eq_false (λh=>h h0)];rfl
    have ha:asked p q f g.pts=g.pts:=by unfold asked;rw[ArZ h0]
    rw[go_goes hn hE' hx ht,ArZ hp,ha]
    unfold isPoint at hp
    cases hs:secAt p q with
    | none =>
      rw[show outs p q f=[] by unfold outs;rw[hs]]
      refine⟨hg,?_⟩
      rw[List.foldl_nil,AeQ _ _ (AeR (by unfold endOf;rw[hs]))]
      rfl
    | some x =>
      rw[hs] at hp
      have hp':x.pt=false:=hp
      have ho:outs p q f=if f=0∨f=1 then [⟨q,f,1-f⟩] else []:=by unfold outs;rw[hs];simp only;rw[hp'];rfl
      rw[ho]
      by_cases hf2:f=0∨f=1
      ·rw[ArZ hf2,List.foldl_cons,List.foldl_nil]
       exact yW p own hall k q (1-f) { g with seen:=g.seen++[q] } l0 hg
      rw[ArY hf2,List.foldl_nil]
      refine⟨hg,?_⟩
      rw[AeQ _ _ (AeR _)]
      ·rfl
      unfold endOf
      rw[hs]
      simp only
      rw[ArY]
      unfold isEnd
      rw[decide_eq_false (by omega:¬ 0<=1-f),Bool.false_and]
      exact Bool.false_ne_true
   rw[ArY hp]
   have hp':isPoint p q=true:=by simpa using hp
   have hpos:position p ⟨q,f,0⟩=f:=by rw[position_leg (by omega),ArZ hp']
   unfold isPoint at hp'
   obtain⟨x,hs,hpt⟩:∃ x,secAt p q=some x/\x.pt=true:=by
    cases hs:secAt p q with
    | none=>rw[hs] at hp';cases hp'
    | some x=>exact⟨x,rfl,by rw[hs] at hp';exact hp'⟩
   have ho:outs p q f=if f=0 then [⟨q,0,1⟩,⟨q,0,2⟩] else if f=1∨f=2 then [⟨q,f,0⟩] else []:=by unfold outs;rw[hs];simp only;rw[ArZ hpt]
   by_cases h0:f=0
   ·have ht:turned p q f g.pts=false:=by unfold turned;rw[hpos,decide_eq_false (λh=>h h0)];rfl
    have ha:asked p q f g.pts=g.pts:=by unfold asked;rw[hpos,ArZ h0]
    rw[go_goes hn hE' hx ht,ha,ArZ h0,ho,ArZ h0,List.foldl_cons,List.foldl_cons,List.foldl_nil]
    obtain⟨g1,e1⟩:=yW p own hall k q 1 { g with seen:=g.seen++[q] } l0 hg
    obtain⟨g2,e2⟩:=yW p own hall k q 2 _ l0 g1
    exact⟨g2,e2.trans (by rw[e1];rfl)⟩
   rw[ArY h0]
   have ha:asked p q f g.pts=Dm.put g.pts ⟨q,3-f⟩:=by unfold asked;rw[hpos,ArY h0]
   have hne:(⟨q,3-f⟩:Dm.Dem).pos≠0:=by show 3-f≠0;omega
   have hgp:=hg.put hne
   have hpp:Dm.posOf (Dm.put g.pts ⟨q,3-f⟩) q=if Dm.posOf g.pts q≠0 then Dm.posOf g.pts q else 3-f:=by rw[hg.posOf_put,ArZ rfl]
   have hsame:Dm.posOf g.pts q≠0->Dm.put g.pts ⟨q,3-f⟩=g.pts:=λh=>by unfold Dm.put;rw[ArZ h]
   by_cases hf1:Dm.posOf g.pts q=f
   ·have hz:Dm.posOf g.pts q≠0:=by omega
    have ht:turned p q f g.pts=false:=by
     unfold turned
     rw[hpos,hpp,ArZ hz,decide_eq_false (λh=>h hf1:¬ Dm.posOf g.pts q≠f),Bool.and_false]
    rw[go_goes hn hE' hx ht,ha,ArZ hf1,ho,ArY h0,ArZ (by omega),List.foldl_cons,List.foldl_nil,hsame hz]
    exact yW p own hall k q 0 { g with seen:=g.seen++[q] } l0 hg
   rw[ArY hf1]
   have ht:turned p q f g.pts=true:=by
    unfold turned
    rw[hpos,hpp,decide_eq_true h0,Bool.true_and,decide_eq_true_eq]
    split
    ·exact hf1
    omega
   rw[go_turn hn hE' hx ht,ha]
   by_cases hz:Dm.posOf g.pts q=0
   ·rw[ArZ hz]
    exact⟨hgp,rfl⟩
   rw[ArY hz]
   refine⟨hgp,?_⟩
   rw[hsame hz]
   rfl
theorem go_adds (p:Plan) (own:List Stp):∀ (k:Nat) (s e:Int) (g:G),Adds g (go p own k s e g)
 | 0,_,_,g=>Adds.refl g
 | k + 1,s,e,g=>by
   by_cases hE:ends_ p own s e g=true
   ·rw[go_ends hE];exact Adds.refl g
   have hE':ends_ p own s e g=false:=Bool.eq_false_iff.2 hE
   have h8:=ends_len hE'
   generalize hn:next p s e=w
   obtain⟨q,f,ok⟩:=w
   have e1:(g.seen++[q]).length=g.seen.length+1:=by rw[ArV];rfl
   have ha:(asked p q f g.pts).length<=g.pts.length+1:=by
    unfold asked
    split
    ·omega
    exact dm_put_len _ _
   by_cases hx:0<=signal p q f
   ·rw[go_sig hn hE' hx]
    have e2:(g.fl++[signal p q f]).length=g.fl.length+1:=by rw[ArV];rfl
    exact⟨by show _<=(g.seen++[q]).length;omega,λh=>by show (g.seen++[q]).length<=8;omega,by show g.pts.length+_<=_+(g.seen++[q]).length;omega,by show (g.fl++[signal p q f]).length+_<=_+(g.seen++[q]).length;omega⟩
   have hs:Adds g { g with seen:=g.seen++[q],pts:=asked p q f g.pts } :=
    ⟨by show _<=(g.seen++[q]).length;omega,λh=>by show (g.seen++[q]).length<=8;omega,by show (asked p q f g.pts).length+_<=_+(g.seen++[q]).length;omega,by show g.fl.length+_<=_+(g.seen++[q]).length;omega⟩
   by_cases ht:turned p q f g.pts=true
   ·rw[go_turn hn hE' hx ht];exact hs
   rw[go_goes hn hE' hx (Bool.eq_false_iff.2 ht)]
   have:∀ (l:List Stp) (h:G),Adds g h->Adds g (l.foldl (λg x=>go p own k q x.t g) h):=by
    intro l
    induction l with
    | nil=>intro h hh;exact hh
    | cons x l ih=>intro h hh;exact ih _ (hh.trans (go_adds p own k q x.t h))
   exact this _ _ hs
theorem fold_adds (p:Plan) (own:List Stp) (k:Nat) (q:Int):∀ (l:List Stp) (h:G),Adds h (l.foldl (λg x=>go p own k q x.t g) h)
 | [],h=>Adds.refl h
 | x :: l,h=>(go_adds p own k q x.t h).trans (fold_adds p own k q l _)
theorem fold_next {p:Plan} {own:List Stp} {k:Nat} {q:Int} {l:List Stp} {h:G} {j:Nat} (hj:j<l.length):(l.take (j+1)).foldl (λg x=>go p own k q x.t g) h=go p own k q l[j].t ((l.take j).foldl (λg x=>go p own k q x.t g) h):=by
 rw[List.take_add_one,ArN hj,List.foldl_append];rfl
theorem put_rise {l:List Int} (h:l.Pairwise (·<·)) (n:Int):(put l n).Pairwise (·<·)/\∀ x,x∈put l n ↔ x∈l∨x=n:=by
 have hl:(l.takeWhile λx=>decide (x<n))++l.dropWhile (λx=>decide (x<n))=l:=List.takeWhile_append_dropWhile
 have htake:∀ x∈l.takeWhile (λx=>decide (x<n)),x<n:=λx hx=>by
  have:=List.all_takeWhile (p:=λx=>decide (x<n)) (l:=l)
  rw[List.all_eq_true] at this
  exact of_decide_eq_true (this x hx)
 have hdrop:∀ (l:List Int),l.Pairwise (·<·)->∀ x∈l.dropWhile (λx=>decide (x<n)),n<=x:=by
  intro l
  induction l with
  | nil=>intro _ x hx;cases hx
  | cons y l ih =>
    intro hp x hx
    obtain⟨h1,h2⟩:=List.pairwise_cons.1 hp
    rw[List.dropWhile_cons] at hx
    by_cases hy:y<n
    ·rw[ArZ (decide_eq_true hy)] at hx
     exact ih h2 x hx
    rw[ArY (λh=>hy (of_decide_eq_true h))] at hx
    rcases AsN.1 hx with rfl|hx
    ·omega
    have:=h1 x hx;omega
 have hd:=hdrop l h
 unfold put
 generalize htw:l.takeWhile (λx=>decide (x<n))=a at hl htake
 generalize hdw:l.dropWhile (λx=>decide (x<n))=b at hl hd
 by_cases hb:b[0]?=some n
 ·rw[ArZ hb]
  refine⟨h,λx=>⟨.inl,?_⟩⟩
  rintro(hx|rfl)
  ·exact hx
  rw[<-hl]
  exact List.mem_append_right _ (ArX hb)
 rw[ArY hb]
 have hp:=h
 rw[<-hl] at hp
 obtain⟨r1,r2,r3⟩:=List.pairwise_append.1 hp
 have hlt:∀ x∈b,n<x:=by
  intro x hx
  have h1:=hd x hx
  rcases Int.lt_or_eq_of_le h1 with h2|h2
  ·exact h2
  exfalso
  apply hb
  cases b with
  | nil=>cases hx
  | cons y b =>
    rcases AsN.1 hx with rfl|hx
    ·rw[h2];rfl
    have h3:=(List.pairwise_cons.1 r2).1 x hx
    have h4:=hd y (List.mem_cons_self ..)
    omega
 refine⟨List.pairwise_append.2 ⟨r1,List.pairwise_cons.2 ⟨hlt,r2⟩,λx hx y hy=>?_⟩,λx=>?_⟩
 ·rcases AsN.1 hy with rfl|hy
  ·exact htake x hx
  exact r3 x hx y hy
 rw[<-hl,ArW,ArW,AsN]
 constructor
 ·rintro(h|h|h)
  ·exact .inl (.inl h)
  ·exact .inr h
  exact .inl (.inr h)
 rintro((h|h)|h)
 ·exact .inl h
 ·exact .inr (.inr h)
 exact .inr (.inl h)
theorem AhW (r:List Int):∀ l:List Int,l.Pairwise (·<·)->(r.foldl put l).Pairwise (·<·)/\∀ x,x∈r.foldl put l ↔ x∈l∨x∈r:=by
 induction r with
 | nil=>intro l h;exact⟨h,λx=>⟨.inl,λh=>h.elim id (λh=>by cases h)⟩⟩
 | cons n r ih =>
   intro l h
   obtain⟨h1,h2⟩:=put_rise h n
   obtain⟨h3,h4⟩:=ih _ h1
   refine⟨h3,λx=>?_⟩
   rw[List.foldl_cons,h4,h2,AsN]
   constructor
   ·rintro((h|h)|h)
    ·exact .inl h
    ·exact .inr (.inl h)
    exact .inr (.inr h)
   rintro(h|h|h)
   ·exact .inl (.inl h)
   ·exact .inl (.inr h)
   exact .inr h
theorem sI:∀ {a b:List Int},a.Pairwise (·<·)->b.Pairwise (·<·)->(∀ x,x∈a ↔ x∈b)->a=b
 | [],b,_,_,h=>by
   cases b with
   | nil=>rfl
   | cons y b=>exact absurd ((h y).2 (List.mem_cons_self ..)) (λh=>by cases h)
 | x :: a,[],_,_,h=>absurd ((h x).1 (List.mem_cons_self ..)) (λh=>by cases h)
 | x :: a,y :: b,ha,hb,h=>by
   obtain⟨a1,a2⟩:=List.pairwise_cons.1 ha
   obtain⟨b1,b2⟩:=List.pairwise_cons.1 hb
   have hxy:x=y:=by
    rcases AsN.1 ((h x).1 (List.mem_cons_self ..)) with h1|h1
    ·exact h1
    rcases AsN.1 ((h y).2 (List.mem_cons_self ..)) with h2|h2
    ·exact h2.symm
    have:=b1 x h1
    have:=a1 y h2
    omega
   subst hxy
   rw[sI a2 b2 λz=>?_]
   constructor
   ·intro hz
    rcases AsN.1 ((h z).1 (List.mem_cons_of_mem _ hz)) with h1|h1
    ·have:=a1 z hz;omega
    exact h1
   intro hz
   rcases AsN.1 ((h z).2 (List.mem_cons_of_mem _ hz)) with h1|h1
   ·have:=b1 z hz;omega
   exact h1
end Go.Proofs.YtjofpclmbjpgjaaGreat.Fl
namespace Go.Proofs.YtjofpclmbjpgjaaGreat
open Lib (hid)
open Go.RowKit
abbrev AoM (p:Pl.Plan) (A:Option Addr) (c:Nat) (A':Option Addr) (c':Nat) (B:Option Addr) (d n:Nat) (v7 v8 v9:Value):Obj:=.cells #[.int .i64 p.ov,.int .i64 p.ap,.int .i64 p.se,.int .i64 p.ho,.slice A p.secs.length c,.slice A' p.sigs.length c',.slice B n d,v7,v8,v9] 163
structure SchV where
 B1:Option Addr
 d1:Nat
 v:Value
 u:Value
abbrev kN (w w':World):Prop:=Tame 163 3 w w'
structure SchAt (p:Pl.Plan) (A:Option Addr) (c:Nat) (A':Option Addr) (c':Nat) (B:Option Addr) (d n:Nat) (G:Nat) (w0 wr:World) (V:SchV) (g:Fl.G):Prop where
 below:Below w0.heap.size w0 wr
 hG:w0.heap.size<=G
 at_:wr.heap[G]?=some (AoM p A c A' c' B d n (.slice V.B1 g.pts.length V.d1) V.v V.u)
 pts:aJ.Row wr V.B1 g.pts
 l1:g.pts.length<=V.d1
 seen:wr.ownsRow (G+1) 3 aF.m V.v g.seen.length (aF.all g.seen)
 sigs:wr.ownsRow (G+1) 3 aF.m V.u g.fl.length (aF.all g.fl)
 ap:∀ b,V.v.ownBlock=some b->V.u.ownBlock≠some b
 n1:g.pts≠[]->∀ a,V.B1=some a->a.block≠G/\V.v.ownBlock≠some a.block/\V.u.ownBlock≠some a.block/\a.block<wr.heap.size
def PtsNew (V V':SchV) (L L':List Dm.Dem) (wr:World):Prop:=(V'.B1=V.B1/\L'=L)∨∀ a,V'.B1=some a->wr.heap.size<=a.block
theorem PtsNew.refl (V:SchV) (L:List Dm.Dem) (wr:World):PtsNew V V L L wr:=.inl ⟨rfl,rfl⟩
theorem PtsNew.trans {V V' V'':SchV} {L L' L'':List Dm.Dem} {w w':World} (h:PtsNew V V' L L' w) (h':PtsNew V' V'' L' L'' w') (hs:w.heap.size<=w'.heap.size):PtsNew V V'' L L'' w:=by
 rcases h' with ⟨h1,h2⟩|h1
 ·rcases h with ⟨h3,h4⟩|h3
  ·exact .inl ⟨h1.trans h3,h2.trans h4⟩
  exact .inr (by rw[h1];exact h3)
 exact .inr λa ha=>ArS hs (h1 a ha)
theorem PtsNew.mono {V V':SchV} {L L':List Dm.Dem} {w w':World} (h:PtsNew V V' L L' w') (hs:w.heap.size<=w'.heap.size):PtsNew V V' L L' w:=h.imp id λh a ha=>ArS hs (h a ha)
def pR (p:Pl.Plan) (A:Option Addr) (c:Nat) (A':Option Addr) (c':Nat) (B:Option Addr) (d n:Nat) (G:Nat) (w0 wr:World) (V:SchV) (L:List Dm.Dem) (g:Fl.G) (v:Value) (e:Ending) (w':World):Prop :=
 e=.returned v/\∃ V',SchAt p A c A' c' B d n G w0 w' V' g/\kN wr w'/\PtsNew V V' L g.pts wr
theorem sJ {w w':World} {base n size:Nat} {v:Value} {xs:List Value} (ho:w.ownsRow base 3 size v n xs) (hg:w.grownBy w' v.ownBlock):kN w w':=by
 refine⟨hg.os,hg.tape,hg.output,hg.size,λb cs t fr hb _ h2=>?_⟩
 rw[hg.block b (ArL hb).1 λe=>?_]
 ·exact hb
 rcases ho.2 with ⟨h3,-⟩|⟨g,cap,cur,h3,-,h4,-⟩
 ·rw[h3] at e;cases e
 rw[h3] at e
 have e':b=g:=AsO e
 subst e'
 rw[h4] at hb
 cases hb
 exact h2 rfl
theorem vE {w:World} {G k:Nat} {cs:Array Value} {fr:Nat × Nat} (v:Value) (h:w.heap[G]?=some (.cells cs 163 fr)):kN w (w.setCell ⟨G,k,none⟩ v):=by
 have hB:=(Below.refl 0 w).setCell (p:=⟨G,k,none⟩) (AsD _) v
 refine⟨hB.os,hB.tape,hB.output,hB.size,λb cs' t fr' hb h1 _=>?_⟩
 rw[AsX w ⟨G,k,none⟩ b v λe=>?_]
 ·exact hb
 have e':b=G:=e
 subst e'
 rw[h] at hb
 cases hb
 exact h1 rfl
theorem row10s {w:World} {g:Nat} {a b c d e f i j k l:Value} {t:TypeId} (h:w.heap[g]?=some (.cells #[a,b,c,d,e,f,i,j,k,l] t (0,0))) :
 (w.cell? ⟨g,0,none⟩=some a/\w.cell? ⟨g,1,none⟩=some b/\w.cell? ⟨g,2,none⟩=some c/\w.cell? ⟨g,3,none⟩=some d/\w.cell? ⟨g,4,none⟩=some e/\w.cell? ⟨g,5,none⟩=some f/\w.cell? ⟨g,6,none⟩=some i/\w.cell? ⟨g,7,none⟩=some j/\w.cell? ⟨g,8,none⟩=some k/\w.cell? ⟨g,9,none⟩=some l) /\
 (w.frozen? ⟨g,7,none⟩=false/\w.frozen? ⟨g,8,none⟩=false/\w.frozen? ⟨g,9,none⟩=false)/\g<w.heap.size :=
 ⟨⟨AsY w g 0 _ t _ h,AsY w g 1 _ t _ h,AsY w g 2 _ t _ h,AsY w g 3 _ t _ h,AsY w g 4 _ t _ h,AsY w g 5 _ t _ h,AsY w g 6 _ t _ h,AsY w g 7 _ t _ h,AsY w g 8 _ t _ h,AsY w g 9 _ t _ h⟩,
   ⟨AsZ w g 7 _ t h,AsZ w g 8 _ t h,AsZ w g 9 _ t h⟩,(ArL h).1⟩
section
variable {p : Pl.Plan} {A : Option Addr} {c : Nat} {A' : Option Addr} {c' : Nat} {B : Option Addr} {d n : Nat} {G : Nat} {w0 wr : World} {V : SchV} {g : Fl.G}
theorem SchAt.lt (h:SchAt p A c A' c' B d n G w0 wr V g):G<wr.heap.size:=(ArL h.at_).1
theorem SchAt.next {w2:World} (h:SchAt p A c A' c' B d n G w0 wr V g) (hb:Below wr.heap.size wr w2):SchAt p A c A' c' B d n G w0 w2 V g :=
 ⟨h.below.trans (hb.mono h.below.size),h.hG,(hb.block _ h.lt).trans h.at_,h.pts.below rfl hb,h.l1,aA h.seen hb,aA h.sigs hb,h.ap,
  λhz a ha=>⟨(h.n1 hz a ha).1,(h.n1 hz a ha).2.1,(h.n1 hz a ha).2.2.1,AsE (h.n1 hz a ha).2.2.2 hb.size⟩⟩
theorem SchAt.setPts {L:List Dm.Dem} {B1:Option Addr} {d1:Nat} {w2:World} (h:SchAt p A c A' c' B d n G w0 wr V g) (hb:Below wr.heap.size wr w2) (hR:aJ.Row w2 B1 L) (hl:L.length<=d1) (hn:∀ a,B1=some a->wr.heap.size<=a.block) (hlt:L≠[]->∀ a,B1=some a->a.block<w2.heap.size) :
 SchAt p A c A' c' B d n G w0 (w2.setCell ⟨G,7,none⟩ (.slice B1 L.length d1)) ⟨B1,d1,V.v,V.u⟩ { g with pts:=L }/\kN wr (w2.setCell ⟨G,7,none⟩ (.slice B1 L.length d1)):=by
 have hG:=h.lt
 have hV:∀ k,V.v.ownBlock=some k->k<wr.heap.size:=λk hk=>(h.seen.lt k hk).2
 have hU:∀ k,V.u.ownBlock=some k->k<wr.heap.size:=λk hk=>(h.sigs.lt k hk).2
 obtain⟨h1,h2,h3,-,-,h6,h7,h8,-⟩:=h.next hb
 have q1:L≠[]->∀ a,B1=some a->a.block≠G/\V.v.ownBlock≠some a.block/\V.u.ownBlock≠some a.block/\a.block<w2.heap.size:=λhz a ha=>by
  have:=hn a ha
  exact⟨by omega,λe=>(by have:=hV _ e;omega),λe=>(by have:=hU _ e;omega),hlt hz a ha⟩
 refine⟨⟨h1.setCell h2 _,h2,?_,?_,hl,aL h6 λb hb=>AsX _ _ _ _ λe=>?_,aL h7 λb hb=>AsX _ _ _ _ λe=>?_,h8,λhz a ha=>⟨(q1 hz a ha).1,(q1 hz a ha).2.1,(q1 hz a ha).2.2.1,by simpa using (q1 hz a ha).2.2.2⟩⟩,(Below.tame hb _ _).trans (vE _ h3)⟩
 ·rw[AtA _ _ _ _ _ _ h3];rfl
 ·exact hR.kept (by simp) λhz a ha=>AsX _ _ _ _ (q1 hz a ha).1
 ·have:=(h6.lt b hb).1
  have e':b=G:=e
  omega
 have:=(h7.lt b hb).1
 have e':b=G:=e
 omega
theorem SchAt.see {q:Int} {w2 w4:World} {v':Value} (h:SchAt p A c A' c' B d n G w0 wr V g) (hb:Below wr.heap.size wr w2) (hown:w4.ownsRow (G+1) 3 aF.m v' (g.seen.length+1) (aF.all g.seen++aF.all [q])) (hg:w2.grownBy w4 V.v.ownBlock) (hv:∀ k,v'.ownBlock=some k->V.v.ownBlock=some k∨wr.heap.size<=k) :
 SchAt p A c A' c' B d n G w0 (w4.setCell ⟨G,8,none⟩ v') ⟨V.B1,V.d1,v',V.u⟩ { g with seen:=g.seen++[q] }/\kN wr (w4.setCell ⟨G,8,none⟩ v'):=by
 have hGl:=h.lt
 have k1:=h.n1
 have ka:=h.ap
 have hU:∀ k,V.u.ownBlock=some k->k<wr.heap.size:=λk hk=>(h.sigs.lt k hk).2
 obtain⟨h1,h2,h3,h4,h5,h6,h7,h8,h9⟩:=h.next hb
 have hs:w2.heap.size<=w4.heap.size:=hg.size
 have e3:w4.heap[G]?=w2.heap[G]?:=hg.block G (by have:=hb.size;omega) (λe=>by have:=(h6.lt G e.symm).1;omega)
 have h7':w4.ownsRow (G+1) 3 aF.m V.u g.fl.length (aF.all g.fl):=aL h7 λb hb2=>hg.block b (h7.lt b hb2).2 λe=>h8 b e.symm hb2
 refine⟨⟨((h1.grown hg (by have:=h1.size;omega) λk hk=>?_).setCell h2 _),h2,?_,h4.kept (by simp;omega) λhz a ha=>(AsX _ _ _ _ (h9 hz a ha).1).trans (hg.block _ (h9 hz a ha).2.2.2 λe=>(h9 hz a ha).2.1 e.symm),h5,?_,aL h7' λb hb2=>AsX _ _ _ _ λe=>?_,λb hb2 hu=>?_,λhz a ha=>⟨(h9 hz a ha).1,λe=>?_,(h9 hz a ha).2.2.1,by have:=(h9 hz a ha).2.2.2;simp;omega⟩⟩,((Below.tame hb _ _).trans (sJ h6 hg)).trans (vE _ (e3.trans h3))⟩
 ·have:=(h6.lt k hk).1;omega
 ·rw[AtA _ _ _ _ _ _ (e3.trans h3)];rfl
 ·refine aL ?_ λb hb=>AsX _ _ _ _ λe=>?_
  ·show w4.ownsRow (G+1) 3 aF.m v' (g.seen++[q]).length (aF.all (g.seen++[q]))
   rw[ArV,aF.all_append];exact hown
  have:=(hown.lt b hb).1
  have e':b=G:=e
  omega
 ·have:=(h7.lt b hb2).1
  have e':b=G:=e
  omega
 ·have hb2':v'.ownBlock=some b:=hb2
  rcases hv _ hb2' with e|e
  ·exact ka b e hu
  have:=hU b hu;omega
 rcases hv _ e with e|e
 ·exact(h9 hz a ha).2.1 e
 have:=(k1 hz a ha).2.2.2;omega
theorem SchAt.tell {q:Int} {w2 w4:World} {v':Value} (h:SchAt p A c A' c' B d n G w0 wr V g) (hb:Below wr.heap.size wr w2) (hown:w4.ownsRow (G+1) 3 aF.m v' (g.fl.length+1) (aF.all g.fl++aF.all [q])) (hg:w2.grownBy w4 V.u.ownBlock) (hv:∀ k,v'.ownBlock=some k->V.u.ownBlock=some k∨wr.heap.size<=k) :
 SchAt p A c A' c' B d n G w0 (w4.setCell ⟨G,9,none⟩ v') ⟨V.B1,V.d1,V.v,v'⟩ { g with fl:=g.fl++[q] }/\kN wr (w4.setCell ⟨G,9,none⟩ v'):=by
 have hGl:=h.lt
 have k1:=h.n1
 have ka:=h.ap
 have hV:∀ k,V.v.ownBlock=some k->k<wr.heap.size:=λk hk=>(h.seen.lt k hk).2
 obtain⟨h1,h2,h3,h4,h5,h6,h7,h8,h9⟩:=h.next hb
 have hs:w2.heap.size<=w4.heap.size:=hg.size
 have e3:w4.heap[G]?=w2.heap[G]?:=hg.block G (by have:=hb.size;omega) (λe=>by have:=(h7.lt G e.symm).1;omega)
 have h6':w4.ownsRow (G+1) 3 aF.m V.v g.seen.length (aF.all g.seen):=aL h6 λb hb2=>hg.block b (h6.lt b hb2).2 λe=>h8 b hb2 e.symm
 refine⟨⟨((h1.grown hg (by have:=h1.size;omega) λk hk=>?_).setCell h2 _),h2,?_,h4.kept (by simp;omega) λhz a ha=>(AsX _ _ _ _ (h9 hz a ha).1).trans (hg.block _ (h9 hz a ha).2.2.2 λe=>(h9 hz a ha).2.2.1 e.symm),h5,aL h6' λb hb2=>AsX _ _ _ _ λe=>?_,?_,λb hb2 hu=>?_,λhz a ha=>⟨(h9 hz a ha).1,(h9 hz a ha).2.1,λe=>?_,by have:=(h9 hz a ha).2.2.2;simp;omega⟩⟩,((Below.tame hb _ _).trans (sJ h7 hg)).trans (vE _ (e3.trans h3))⟩
 ·have:=(h7.lt k hk).1;omega
 ·rw[AtA _ _ _ _ _ _ (e3.trans h3)];rfl
 ·have:=(h6.lt b hb2).1
  have e':b=G:=e
  omega
 ·refine aL ?_ λb hb=>AsX _ _ _ _ λe=>?_
  ·show w4.ownsRow (G+1) 3 aF.m v' (g.fl++[q]).length (aF.all (g.fl++[q]))
   rw[ArV,aF.all_append];exact hown
  have:=(hown.lt b hb).1
  have e':b=G:=e
  omega
 ·have hu':v'.ownBlock=some b:=hu
  rcases hv _ hu' with e|e
  ·exact ka b hb2 e
  have:=hV b hb2;omega
 rcases hv _ e with e|e
 ·exact(h9 hz a ha).2.2.1 e
 have:=(k1 hz a ha).2.2.2;omega
end
open Go.RowKit
theorem lL {P:Program} (w:World) (base:Nat) (t ty e:TypeId) (i:TypeInfo) (z:Value) (size bytes:Nat) (ht:P.underlying t=some (.slice e)) (hi:P.info? e=some i) (hz:i.zero=some z)
 (hsize:i.size=size) (hby:i.bytes=bytes) (hzs:z.cells.size=size)
 (v:Value) (n:Nat) (xs:List Value) (hown:w.ownsRow base e size v n xs)
 (a:Addr) (m c:Nat) (news:List Value) (hl:news.length=m*size) (hnews:∀ j u,news[j]?=some u->w.cell? (a.add j)=some u) (h1:∀ u∈news,u.oneCell'=true)
 (hm:0<m) (h63:n+m<=maxLen) (hbytes:(n+m)*bytes<=140737488355328) (hbase:base<=w.heap.size) :
 ∃ g cap w',(Builtin.append_ #[t,t] ty #[v,.slice (some a) m c]).run P w=.ok (.slice (some ⟨g,0,none⟩) (n+m) cap) w' /\
   w'.ownsRow base e size (.slice (some ⟨g,0,none⟩) (n+m) cap) (n+m) (xs++news)/\w'.ownsRow base e size v n xs /\
   ((v=.slice (some ⟨g,0,none⟩) n cap/\w.grownBy w' (some g))∨(g=w.heap.size/\w.grownBy w' none)):=by
 subst hsize
 subst hby
 have hsmall:n+m<=9223372036854775807:=by simp only[maxLen] at h63;omega
 have hlen:(xs++news).length=(n+m)*i.size:=by rw[ArV,hown.1,hl,Nat.add_mul]
 have grown:∀ (old:Nat),old<n+m ->
  (w.drew.alloc (.cells (xs.toArray++news.toArray++Builtin.zeroCells z.cells (grownCap w (n+m) old e-(n+m))) e)).ownsRow base e i.size
   (.slice (some ⟨w.heap.size,0,none⟩) (n+m) (grownCap w (n+m) old e)) (n+m) (xs++news) /\
  w.grownBy (w.drew.alloc (.cells (xs.toArray++news.toArray++Builtin.zeroCells z.cells (grownCap w (n+m) old e-(n+m))) e)) none:=by
  intro old ho
  have hge:=grownCap_ge w (n+m) old e
  have hcm:grownCap w (n+m) old e<=maxLen:=grownCap_le_maxLen w (n+m) old e h63
  refine⟨⟨hlen,.inr ⟨w.heap.size,_,_,rfl,hbase,AsW w.drew _,hge,hcm,?_,?_⟩⟩,⟨rfl,rfl,rfl,by simp,λk hk _=>heap_alloc_old w.drew _ hk⟩⟩
  ·simp only[Array.size_append,List.size_toArray,size_zeroCells,hzs,hown.1,hl,<-Nat.add_mul]
   congr 1
   omega
  simp only[Array.toList_append,List.append_assoc]
  rw[<-List.append_assoc,<-hlen]
  exact List.take_left
 rcases hown.2 with ⟨rfl,rfl⟩|⟨g,cap,cur,rfl,hbg,hg,hnc,hcm,hcs,htake⟩
 ·have hx:xs=[]:=AsR (by simpa using hown.1)
  subst hx
  have hr:=run_append_nil (P:=P) w t ty e i z ht hi hz a m c news hl hnews (by omega) (by omega) (by have hb:=hbytes;simp only[Nat.zero_add] at hb;omega)
  have hgr:=grown 0 (by omega)
  simp only[Nat.zero_add,List.nil_append,Array.empty_append] at hgr ⊢
  exact⟨_,_,_,hr,hgr.1,World.ownsRow_nil _ _ _ _,.inr ⟨rfl,hgr.2⟩⟩
 by_cases hroom:n+m<=cap
 ·have hfit:n*i.size+news.length<=cur.size:=by rw[hl,hcs,<-Nat.add_mul];exact Nat.mul_le_mul_right _ hroom
  have hr:=run_append_room (P:=P) w t ty e i ht hi g n cap cur hg a m c news hl hnews h1 hroom hfit
  have hs:(cur.toList.take (n*i.size)++news++cur.toList.drop (n*i.size+news.length)).toArray.size=cap*i.size:=by
   simp only[List.size_toArray,ArV,AsU,List.length_drop,Array.length_toList]
   omega
  refine⟨g,cap,_,hr,⟨hlen,.inr ⟨g,cap,_,rfl,hbg,setRow_heap w g cur _ e _ hg,hroom,hcm,hs,?_⟩⟩,⟨hown.1,.inr ⟨g,cap,_,rfl,hbg,setRow_heap w g cur _ e _ hg,hnc,hcm,hs,?_⟩⟩,.inl ⟨rfl,rfl,rfl,rfl,by simp,λk _ hk=>setRow_other w g k _ (λe=>hk (by simp[e]))⟩⟩
  ·rw[htake,<-hlen]
   exact List.take_left
  show (cur.toList.take (n*i.size)++news++cur.toList.drop (n*i.size+news.length)).take (n*i.size)=xs
  rw[htake,List.append_assoc,<-hown.1]
  exact List.take_left
 have hlie:∀ j u,xs[j]?=some u->w.cell? ((⟨g,0,none⟩:Addr).add j)=some u:=hown.cells (g:=g) rfl
 have hr:=run_append_grow (P:=P) w t ty e i z ht hi hz ⟨g,0,none⟩ n cap xs hown.1 hlie a m c news hl hnews (by omega) (by omega) (growslice_fits (by omega) hbytes)
 have hgr:=grown cap (by omega)
 exact⟨_,_,_,hr,hgr.1,hown.kept hgr.2 (.inr (by simp[Value.ownBlock])),.inr ⟨rfl,hgr.2⟩⟩
theorem dP {α:Type} (E:Lies α) {P:Program} (w:World) {ops:Array Oper} {rest:List Oper} {o:Oper} {a:Act} {Q:Exit->Act->World->Prop} (hgd:o.guard=none) (s x:Operand) (t:TypeId)
 (ho:o.op=.call { callee:=.builtin .append,args:=#[s,x],argTypes:=#[t,t] })
 (base:Nat) (e:TypeId) (i:TypeInfo) (z:Value) (bytes:Nat) (ht:P.underlying t=some (.slice e)) (hi:P.info? e=some i) (hz:i.zero=some z)
 (hsize:i.size=E.m) (hby:i.bytes=bytes) (hzs:z.cells.size=E.m)
 (v:Value) (n:Nat) (xs:List Value) (hs:a.eval s=v) (hown:w.ownsRow base e E.m v n xs)
 (A:Option Addr) (c m:Nat) (L:List α) (hm:L.length=m) (h0:0<m) (hx:a.eval x=.slice A m c) (hI:E.Row w A L) (hn:n+m<=1000000000) (hbytes:(n+m)*bytes<=140737488355328) (hbase:base<=w.heap.size)
 (h:∀ g cap w',w'.ownsRow base e E.m (.slice (some ⟨g,0,none⟩) (n+m) cap) (n+m) (xs++E.all L)->w'.ownsRow base e E.m v n xs->((v=.slice (some ⟨g,0,none⟩) n cap/\w.grownBy w' (some g))∨(g=w.heap.size/\w.grownBy w' none))->wpList P ops Q rest (a.put o.dst (.slice (some ⟨g,0,none⟩) (n+m) cap)) w'):wpList P ops Q (o :: rest) a w:=by
 subst hm
 rcases hI with hI|⟨b,off,rfl,_,hI⟩
 ·subst hI;simp at h0
 refine wpList_plain hgd λK hK=>?_
 obtain⟨g,cap,w',hr,h2,h3,h4⟩:=lL (P:=P) w base t o.type e i z E.m bytes ht hi hz hsize hby hzs v n xs hown ⟨b,off,none⟩ L.length c (E.all L) (E.all_len L) (Lies.news hI) (E.all_single L) h0 (by unfold maxLen;omega) hbytes hbase
 unfold Oper.wp execOp
 simp only[ho,resolve,invoke,builtin,Sem.run_bind,Sem.run_pure,Result.andThen_ok,List.map_toArray,List.map_cons,List.map_nil,hs,hx,hr]
 exact hK _ _ (h g cap w' h2 h3 h4)
def blk (A:Option Addr):Option Nat:=A.map Addr.block
theorem iC (A:Option Addr) (n c:Nat):(Value.slice A n c).ownBlock=blk A:=by cases A <;> rfl
structure Seeks (tH tW:TypeId) (x:Option Nat) (w w':World):Prop where
 os:w'.os=w.os
 tape:w'.tape=w.tape
 output:w'.output=w.output
 size:w.heap.size<=w'.heap.size
 block:∀ (b:Nat) (cs:Array Value) (t:TypeId) (fr:Nat × Nat),w.heap[b]?=some (Obj.cells cs t fr)->t≠tH->t≠tW->some b≠x->w'.heap[b]?=some (Obj.cells cs t fr)
theorem Seeks.refl (tH tW:TypeId) (x:Option Nat) (w:World):Seeks tH tW x w w:=⟨rfl,rfl,rfl,ArR _,λ_ _ _ _ h _ _ _=>h⟩
theorem Seeks.trans {tH tW:TypeId} {x:Option Nat} {a b c:World} (h:Seeks tH tW x a b) (h':Seeks tH tW x b c):Seeks tH tW x a c :=
 ⟨h'.os.trans h.os,h'.tape.trans h.tape,h'.output.trans h.output,ArS h.size h'.size,λk cs t fr hk h1 h2 h3=>h'.block k cs t fr (h.block k cs t fr hk h1 h2 h3) h1 h2 h3⟩
theorem Tame.seeks {tH tW:TypeId} {w w':World} (h:Tame tH tW w w') (x:Option Nat):Seeks tH tW x w w':=⟨h.os,h.tape,h.output,h.size,λb cs t fr hb h1 h2 _=>h.block b cs t fr hb h1 h2⟩
theorem Seeks.new {tH tW:TypeId} {x y:Option Nat} {w w1 w2:World} (h1:Seeks tH tW x w w1) (h2:Seeks tH tW y w1 w2) (hy:∀ k,y=some k->w.heap.size<=k∨x=some k):Seeks tH tW x w w2 :=
 ⟨h2.os.trans h1.os,h2.tape.trans h1.tape,h2.output.trans h1.output,ArS h1.size h2.size,λb cs t fr hb e1 e2 e3=>h2.block b cs t fr (h1.block b cs t fr hb e1 e2 e3) e1 e2 (λe4=>by
  rcases hy b e4.symm with h|h
  ·have:=(ArL hb).1;omega
  exact e3 h.symm)⟩
theorem mL {tH tW:TypeId} {x:Option Nat} {w w':World} (hg:w.grownBy w' x):Seeks tH tW x w w' :=
 ⟨hg.os,hg.tape,hg.output,hg.size,λb cs t fr hb _ _ h3=>by rw[hg.block b (ArL hb).1 h3];exact hb⟩
theorem iD {tH tW:TypeId} {x:Option Nat} {w w':World} {base:Nat} {e:TypeId} {size:Nat} {v:Value} {n:Nat} {xs:List Value} (h:w.ownsRow base e size v n xs) (ht:Seeks tH tW x w w') (h1:e≠tH) (h2:e≠tW) (h3:∀ k,v.ownBlock=some k->x≠some k):w'.ownsRow base e size v n xs:=by
 refine⟨h.1,?_⟩
 rcases h.2 with hn|⟨g,cap,cur,rfl,hb,hg,rest⟩
 ·exact .inl hn
 exact .inr ⟨g,cap,cur,rfl,hb,ht.block g cur e (0,0) hg h1 h2 (λe2=>h3 g rfl e2.symm),rest⟩
theorem pS {w:World} {base:Nat} {e:TypeId} {size:Nat} {A:Option Addr} {n m c:Nat} {xs ys:List Value} (h:w.ownsRow base e size (.slice A (n+m) c) (n+m) (xs++ys)) (hl:xs.length=n*size) (hm:0<m):w.ownsRow base e size (.slice A n c) n xs:=by
 refine⟨hl,?_⟩
 rcases h.2 with ⟨-,h0⟩|⟨g,cap,cur,hv,hb,hg,hc,hx,hs,ht⟩
 ·omega
 cases hv
 refine .inr ⟨g,c,cur,rfl,hb,hg,by omega,hx,hs,?_⟩
 have:=congrArg (List.take (n*size)) ht
 rw[List.take_take,Nat.min_eq_left (Nat.mul_le_mul_right _ (Nat.le_add_right _ _)),<-hl,List.take_left] at this
 rw[<-hl]
 exact this
def Offside (B:Option Addr) (M:List WayM):Prop:=∀ m∈M,∀ k,blk m.A=some k->blk B≠some k
def Later (n:Nat) (M:List WayM):Prop:=∀ m∈M,∀ k,blk m.A=some k->n<=k
theorem Later.nil (n:Nat):Later n []:=λ_ h=>by cases h
theorem Later.append {n:Nat} {M N:List WayM} (h:Later n M) (h':Later n N):Later n (M++N):=λm hm=>by
 rcases ArW.1 hm with hm|hm
 ·exact h m hm
 exact h' m hm
theorem Later.mono {n k:Nat} {M:List WayM} (h:Later n M) (hk:k<=n):Later k M:=λm hm j hj=>ArS hk (h m hm j hj)
theorem Later.aside {n:Nat} {B:Option Addr} {N:List WayM} (h:Later n N) (hB:∀ k,blk B=some k->k<n):Offside B N:=λm hm k hk hb=>by
 have h1:=h m hm k hk
 have h2:=hB k hb
 omega
theorem Offside.append {B:Option Addr} {M N:List WayM} (h:Offside B M) (h':Offside B N):Offside B (M++N):=λm hm=>by
 rcases ArW.1 hm with hm|hm
 ·exact h m hm
 exact h' m hm
theorem own_lt {w:World} {base:Nat} {A:Option Addr} {c:Nat} {L:List Wk.Stp} (h:OwnS base w A c L):∀ k,blk A=some k->base<=k/\k<w.heap.size:=λk hk=>by
 have hv:(Value.slice A L.length c).ownBlock=some k:=(iC _ _ _).trans hk
 exact h.lt k hv
theorem Offside.of_own {w:World} {base:Nat} {B:Option Addr} {M:List WayM} (hM:∀ m∈M,OwnS base w m.A m.c m.way.steps) (hB:∀ k,blk B=some k->w.heap.size<=k):Offside B M:=λm hm k hk hb=>by
 have h1:=(own_lt (hM m hm) k hk).2
 have h2:=hB k hb
 omega
theorem AmK (w:World) {g base:Nat} (hg:w.heap.size=g) (hb:base<=g):(w.alloc (.cells #[] 129)).ownsRow base 129 3 (.slice (some ⟨g,0,none⟩) 0 0) 0 []:=by
 subst hg
 exact⟨rfl,.inr ⟨w.heap.size,0,#[],rfl,hb,AsW _ _,ArR _,by unfold maxLen;omega,rfl,rfl⟩⟩
theorem AcP {P:Program} (W:World) (d:Nat) (t e:TypeId) (a:Addr) (l c:Nat) (h:P.underlying t=some (.slice e)):(Op.equalIn (d+1) t (.slice (some a) l c) (.slice none 0 0)).run P W=.ok false W:=by
 simp[Op.equalIn,run_underlying h]
theorem AcQ {P:Program} (W:World) (t e:TypeId) (a:Addr) (l c:Nat) (h:P.underlying t=some (.slice e)):(Op.equal t (.slice (some a) l c) (.slice none 0 0)).run P W=.ok false W:=AcP W 9999 t e a l c h
theorem AmL {P:Program} (W:World) (t e:TypeId) (a:Addr) (l c:Nat) (h:P.underlying t=some (.slice e)):Sem.run P (binOp .eql t (.slice (some a) l c) (.slice none 0 0)) W=.ok (.bool false) W:=by
 simp[binOp,AcQ W t e a l c h]
theorem pT (A:Option Addr) (c:Nat) (L:List Wk.Stp) (w:World) (h:aE.Row w A L) (h0:0<L.length) (hl:L.length<=1000) :
 Calls Tryz.prog 67 #[.slice A L.length c] w λe w'=>∃ g d,e=.returned (.slice (some ⟨g,0,none⟩) L.length d)/\OwnS w.heap.size w' (some ⟨g,0,none⟩) d L/\Below w.heap.size w w':=by
 --[
 obtain⟨i0,hi,hz0,hz1,hz2⟩:=info_parts fR
 obtain⟨b,o,rfl,hb,-⟩:=h.at h0
 have OE:=hid (AmK w (g:=w.heap.size) rfl (ArR _))
 have X:=hid ((AtB w).alloc (ArR _) (.cells #[] 129))
 have HR:=hid (h.below rfl X.out)
 have EQ:=λW=>AmL (P:=Tryz.prog) W 86 129 ⟨b,o,none⟩ L.length c Tryz.underlying86
 clear h
 go_enter Tryz.func67,Tryz.ntmps67
 go_wp2_with (at_builtin;refine aG aE _ rfl (.tmp 5) (.tmp 6) 86 rfl w.heap.size 129 i0 _ 24 Tryz.underlying86 hi hz0 hz1 hz2 rfl _ _ _ rfl OE.out (some ⟨b,o,none⟩) c L.length L rfl h0 rfl HR.out (by omega) (by omega) (by simp) ?_;intro g1 cap1 w3 hown1 hg1 hb1)
 go_ret
 rw[Nat.zero_add,List.nil_append] at hown1
 exact⟨g1,cap1,rfl,hown1,X.out.grown hg1 X.out.size (λk hk=>by cases hk;exact ArR _)⟩
 --]
theorem jH (p:Pl.Plan) (A:Option Addr) (c:Nat) (A':Option Addr) (c':Nat) (s f:Int) (w:World) (h:PlanIn w p A A') (_hl:p.secs.length<=24) :
 Calls Tryz.prog 99 #[aR p A c A' c',.int .i64 s,.int .i64 f] w (xR (Wk.outs p s f) w):=by
 --[
 obtain⟨i0,hi,hz0,hz1,hz2⟩:=info_parts fR
 have R0:=AsW w (aD p A c A' c')
 have XX:=(AtB w).alloc (ArR _) (aD p A c A' c')
 have X0:=hid XX
 obtain⟨⟨p0,p1,p2,p3,p4,p5⟩,-,gp⟩:=row6 R0
 have EN:=hid (jD p A c A' c' s _ (h.below XX))
 have hle:=lE p s
 rw[rV]
 clear R0 XX h
 generalize bU p s=q at EN hle
 obtain⟨x,n⟩:=q
 simp only at hle
 simp only
 by_cases h0:f<0
 ·have D2:decide (f<0)=true:=aC h0
  rw[ArZ (.inl h0)]
  clear h0
  go_enter Tryz.func99,Tryz.ntmps99
  go_wp2_with fail
  refine EN.out.mono ?_;rintro e w1 ⟨rfl,hb1⟩
  have B1:=hid ((X0.out.trans (hb1.mono X0.out.size)).alloc (X0.out.trans (hb1.mono X0.out.size)).size (jC x))
  clear p0 p1 p2 p3 p4 p5 hb1 EN
  go_wp2
  go_ret
  exact⟨none,0,rfl,World.ownsRow_nil _ _ _ _,B1.out⟩
 have D2:decide (f<0)=false:=aB h0
 by_cases h2:(n:Int)<=f
 ·have D3:decide ((n:Int)<=f)=true:=aC h2
  rw[ArZ (.inr h2)]
  clear h0 h2
  go_enter Tryz.func99,Tryz.ntmps99
  go_wp2_with fail
  refine EN.out.mono ?_;rintro e w1 ⟨rfl,hb1⟩
  have B1:=hid ((X0.out.trans (hb1.mono X0.out.size)).alloc (X0.out.trans (hb1.mono X0.out.size)).size (jC x))
  clear p0 p1 p2 p3 p4 p5 hb1 EN
  go_wp2
  go_ret
  exact⟨none,0,rfl,World.ownsRow_nil _ _ _ _,B1.out⟩
 have D3:decide ((n:Int)<=f)=false:=aB h2
 rw[ArY (by omega)]
 by_cases h1:0<f
 ·have D4:decide (0<f)=true:=aC h1
  rw[ArZ h1]
  clear h0 h2 h1
  go_enter Tryz.func99,Tryz.ntmps99
  go_wp2_with fail
  refine EN.out.mono ?_;rintro e w1 ⟨rfl,hb1⟩
  have B1:=hid ((X0.out.trans (hb1.mono X0.out.size)).alloc (X0.out.trans (hb1.mono X0.out.size)).size (jC x))
  clear p0 p1 p2 p3 p4 p5 hb1 EN
  go_wp2
  go_ret
  exact⟨_,_,rfl,cT (w1.alloc (jC x)) ⟨s,f,0⟩ (by simp) (by have:=B1.out.size;simpa using this),B1.out.alloc B1.out.size _⟩
 ·have D4:decide (0<f)=false:=aB h1
  rw[ArY h1]
  obtain rfl:f=0:=by omega
  have hn1:1<=n:=by omega
  clear h0 h2 h1
  go_enter Tryz.func99,Tryz.ntmps99
  go_wp2_with fail
  refine EN.out.mono ?_;rintro e w1 ⟨rfl,hb1⟩
  have B1:=hid ((X0.out.trans (hb1.mono X0.out.size)).alloc (X0.out.trans (hb1.mono X0.out.size)).size (jC x))
  clear p0 p1 p2 p3 p4 p5 hb1 EN
  go_wp2_with fail
  go_loopw [9,10] (λv i wr=>∃ k:Nat,k+1<=n/\i=.int .i64 ((k+1:Nat):Int)/\AeC w wr v (eT s k)) (λ_ i _=>n-(intOf i).toNat)
  case atStart=>exact⟨0,hn1,rfl,B1.out,World.ownsRow_nil _ _ _ _⟩
  case round =>
   clear B1
   obtain⟨k,hk,rfl,hS⟩:=hrel
   have HS:=hid hS
   have hS1:=hS.1.size
   have hlen:=pA s k
   clear hS
   by_cases hlt:k+1<n
   ·have d1:decide (((k+1:Nat):Int)<(n:Int))=true:=aC (by omega)
    have HN:=hid (mB s k)
    have HX:=hid ((AtB wr).alloc (ArR _) (jB ⟨s,0,((k+1:Nat):Int)⟩))
    have NW:=hid (uG wr ⟨s,0,((k+1:Nat):Int)⟩ rfl)
    have OW:=hid (aA HS.out.2 HX.out)
    go_wp2_with (at_builtin;refine aG aE _ rfl (.tmp 35) (.tmp 39) 86 rfl w.heap.size 129 i0 _ 24 Tryz.underlying86 hi hz0 hz1 hz2 rfl _ _ _ rfl OW.out (some ⟨wr.heap.size,0,none⟩) 1 1 [⟨s,0,((k+1:Nat):Int)⟩] rfl (by decide) rfl NW.out (by omega) (by omega) (by simp;omega) ?_;intro g1 cap1 w3 hown1 hg1 hb1)
    have H3:=hid (show AeC w w3 (.slice (some ⟨g1,0,none⟩) (k+1) cap1) (eT s (k+1)) from by
     refine⟨(HS.out.1.trans (HX.out.mono HS.out.1.size)).grown hg1 (ArS HS.out.1.size HX.out.size) (λb hb=>(OW.out.lt b hb).1),?_⟩
     rw[hlen] at hown1
     rw[HN.out,aE.all_append,ArV,hlen]
     exact hown1)
    clear hown1 hg1 hb1
    go_wp2
    go_roundw
    case rel=>exact⟨k+1,by omega,by go_num,H3.out⟩
    case measure=>simp[intOf];omega
   have d1:decide (((k+1:Nat):Int)<(n:Int))=false:=aB (by omega)
   obtain rfl:n=k+1:=by omega
   obtain⟨-,B,cp,rfl,-,-⟩:=Lies.Row.of_own HS.out.2
   go_wp2
   go_ret
   exact⟨B,cp,rfl,HS.out.2,HS.out.1⟩
 --]
abbrev yX (p:Pl.Plan) (A:Option Addr) (c:Nat) (A':Option Addr) (c':Nat) (b:Int) (n:Nat) (v:Value):Obj:=.cells #[.int .i64 p.ov,.int .i64 p.ap,.int .i64 p.se,.int .i64 p.ho,.slice A p.secs.length c,.slice A' p.sigs.length c',.int .i64 b,.int .i64 n,v] 119
def SeekAt (p:Pl.Plan) (A:Option Addr) (c:Nat) (A':Option Addr) (c':Nat) (b:Int) (g:Nat) (w0 wr:World) (v:Value) (n:Nat) (M:List WayM):Prop :=
 Below w0.heap.size w0 wr/\w0.heap.size<=g/\wr.heap[g]?=some (yX p A c A' c' b n v)/\wr.ownsRow w0.heap.size 88 dD.m v M.length (dD.all M)/\∀ m∈M,OwnS w0.heap.size wr m.A m.c m.way.steps
abbrev mM (x:Option Nat) (w w':World):Prop:=Seeks 119 88 x w w'
def cE (p:Pl.Plan) (A:Option Addr) (c:Nat) (A':Option Addr) (c':Nat) (b:Int) (g:Nat) (w0:World) (h:Cr.HSt) (B:Option Addr) (d:Nat) (st:List Wk.Stp) (M:List WayM) (w:World) (e:Ending) (w':World):Prop :=
 (h.long=true/\e=.returned (.bool false)/\Below w0.heap.size w0 w') ∨
 (h.long=false/\e=.returned (.bool true)/\∃ v N,(M++N).map WayM.way=h.out/\SeekAt p A c A' c' b g w0 w' v h.tries (M++N)/\Later w.heap.size N/\OwnS w0.heap.size w' B d st/\mM (blk B) w w')
theorem iE {w:World} {g i:Nat} {cs:Array Value} {tH tW:TypeId} {u:Value} (h:w.heap[g]?=some (.cells cs tH (0,0))):Tame tH tW w (w.setCell ⟨g,i,none⟩ u):=by
 have B:=(Below.refl 0 w).setCell (p:=⟨g,i,none⟩) (AsD _) u
 refine⟨B.os,B.tape,B.output,B.size,λb cs' t fr hb h1 _=>?_⟩
 have hne:b≠g:=λe=>by
  subst e
  rw[h] at hb
  cases hb
  exact h1 rfl
 rw[AsX _ _ _ _ hne]
 exact hb
theorem kO {w:World} {g i:Nat} {cs:Array Value} {t:TypeId} {u:Value} (h:w.heap[g]?=some (.cells cs t (0,0))) {base:Nat} {e:TypeId} {size:Nat} {v:Value} {n:Nat} {xs:List Value} (ho:w.ownsRow base e size v n xs) (he:e≠t):(w.setCell ⟨g,i,none⟩ u).ownsRow base e size v n xs :=
 aL ho λb hb=>AsX _ _ _ _ λe'=>fG ho h he ((show b=g from e') ▸ hb)
section
variable {p : Pl.Plan} {A : Option Addr} {c : Nat} {A' : Option Addr} {c' : Nat} {b : Int} {g : Nat} {w0 wr : World} {v : Value} {n : Nat} {M : List WayM}
theorem SeekAt.below {w2:World} (hh:SeekAt p A c A' c' b g w0 wr v n M) (hb:Below wr.heap.size wr w2):SeekAt p A c A' c' b g w0 w2 v n M:=by
 obtain⟨h1,h2,h3,h5,h6⟩:=hh
 exact⟨h1.trans (hb.mono h1.size),h2,(hb.block _ (ArL h3).1).trans h3,aA h5 hb,λm hm=>aA (h6 m hm) hb⟩
theorem SeekAt.came {t:Int} {k:Nat} (hh:SeekAt p A c A' c' b g w0 wr v n M) (ht:t=k):SeekAt p A c A' c' b g w0 (wr.setCell ⟨g,7,none⟩ (.int .i64 t)) v k M/\Tame 119 88 wr (wr.setCell ⟨g,7,none⟩ (.int .i64 t)):=by
 subst ht
 obtain⟨h1,h2,h3,h5,h6⟩:=hh
 refine⟨⟨h1.setCell h2 _,h2,?_,kO h3 h5 (by decide),λm hm=>kO h3 (h6 m hm) (by decide)⟩,iE h3⟩
 rw[AtA _ _ _ _ _ _ h3];rfl
theorem SeekAt.grown {x:Option Nat} {w2:World} (hh:SeekAt p A c A' c' b g w0 wr v n M) (hg:wr.grownBy w2 x) (hb:Below w0.heap.size w0 w2) (hx:∀ k,x=some k->(∃ cs,wr.heap[k]?=some (.cells cs 129 (0,0)))/\∀ m∈M,blk m.A≠some k):SeekAt p A c A' c' b g w0 w2 v n M:=by
 obtain⟨h1,h2,h3,h5,h6⟩:=hh
 have hk:∀ (j:Nat) (cs:Array Value) (t:TypeId),wr.heap[j]?=some (Obj.cells cs t (0,0))->t≠129->w2.heap[j]?=wr.heap[j]?:=λj cs t hj ht=>hg.block j (ArL hj).1 λe=>by
  obtain⟨⟨cs',hc⟩,-⟩:=hx j e.symm
  rw[hj] at hc
  cases hc
  exact ht rfl
 refine⟨hb,h2,(hk g _ _ h3 (by decide)).trans h3,aL h5 λj hj=>?_,λm hm=>aL (h6 m hm) λj hj=>hg.block j ((h6 m hm).lt j hj).2 λe=>?_⟩
 ·rcases h5.2 with ⟨rfl,-⟩|⟨g',cap',cur',rfl,-,hg',-⟩
  ·cases hj
  obtain rfl:g'=j:=AsO hj
  exact hk _ _ _ hg' (by decide)
 exact(hx j e.symm).2 m hm (by rw[iC] at hj;exact hj)
end
theorem AmM (w:World) (A:Option Addr) (c n:Nat) (e:Int) {L:List Wk.Stp} (hn:L.length=n):dD.Row (w.alloc (.cells #[.slice A n c,.int .i64 e] 88)) (some ⟨w.heap.size,0,none⟩) [⟨A,c,⟨L,e⟩⟩]:=by
 subst hn
 exact Lies.Row.fresh (E:=dD) w [⟨A,c,⟨L,e⟩⟩] 88
theorem yY {tH tW:TypeId} {w w':World} {base size n:Nat} {v:Value} {xs:List Value} (ho:w.ownsRow base tW size v n xs) (hg:w.grownBy w' v.ownBlock):Tame tH tW w w' :=
 ⟨hg.os,hg.tape,hg.output,hg.size,λb cs t fr hb _ h2=>by
  rw[hg.block b (ArL hb).1 (λe=>?_)]
  ·exact hb
  rcases ho.2 with ⟨rfl,-⟩|⟨g,cap,cur,rfl,-,hgg,-⟩
  ·cases e
  obtain rfl:b=g:=AsO e
  rw[hb] at hgg
  cases hgg
  exact h2 rfl⟩
theorem AcR {w w':World} {base base':Nat} {e e':TypeId} {size size':Nat} {v v':Value} {n n':Nat} {xs xs':List Value} (h:w.ownsRow base e size v n xs) (h':w.ownsRow base' e' size' v' n' xs') (he:e≠e') (hg:w.grownBy w' v'.ownBlock):w'.ownsRow base e size v n xs:=by
 refine h.kept hg ?_
 cases hk:v.ownBlock with
 | none=>exact .inl rfl
 | some k=>exact .inr λe2=>iA h h' he k hk e2.symm
theorem AcS {p:Pl.Plan} {A:Option Addr} {c:Nat} {A':Option Addr} {c':Nat} {b:Int} {g:Nat} {w0 w3 w4:World} {v' v4:Value} {n:Nat} {M:List WayM} (hh:SeekAt p A c A' c' b g w0 w3 v' n M) {m:WayM} (hm:OwnS w0.heap.size w3 m.A m.c m.way.steps) {o:Obj}
 (hown:w4.ownsRow w0.heap.size 88 dD.m v4 (M.length+1) (dD.all M++dD.all [m])) (hg:(w3.alloc o).grownBy w4 v'.ownBlock) :
 w4.heap[g]?=some (yX p A c A' c' b n v')/\SeekAt p A c A' c' b g w0 (w4.setCell ⟨g,8,none⟩ v4) v4 n (M++[m])/\Tame 119 88 w3 (w4.setCell ⟨g,8,none⟩ v4):=by
 obtain⟨h1,h2,h3,h5,h6⟩:=hh
 have hgl:=(ArL h3).1
 have h3':w4.heap[g]?=some (yX p A c A' c' b n v'):=(hg.block g (by simp;omega) (λe=>fG h5 h3 (by decide) e.symm)).trans ((heap_alloc_old _ _ hgl).trans h3)
 have hS:∀ {B:Option Addr} {d:Nat} {X:List Wk.Stp},OwnS w0.heap.size w3 B d X->OwnS w0.heap.size (w4.setCell ⟨g,8,none⟩ v4) B d X:=λhX=>kO h3' (AcR (World.ownsRow.alloc hX o) (h5.alloc o) (by decide) hg) (by decide)
 have hT1:=(AtB w3).alloc (ArR _) o
 refine⟨h3',⟨((h1.alloc h1.size o).grown hg (by have:=h1.size;simp;omega) (λk hk=>(h5.lt k hk).1)).setCell h2 _,h2,?_,?_,?_⟩,((Below.tame hT1 _ _).trans (yY (h5.alloc o) hg)).trans (iE h3')⟩
 ·rw[AtA _ _ _ _ _ _ h3'];rfl
 ·rw[ArV,List.length_singleton,dD.all_append]
  exact kO h3' hown (by decide)
 intro x hx
 rcases ArW.1 hx with hx|hx
 ·exact hS (h6 x hx)
 rw[AsS] at hx
 subst hx
 exact hS hm
end Go.Proofs.YtjofpclmbjpgjaaGreat
