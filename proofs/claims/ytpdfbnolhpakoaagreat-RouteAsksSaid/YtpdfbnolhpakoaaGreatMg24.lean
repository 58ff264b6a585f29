/-
  Texts of this claim, merged: CrSeek, CrPrA.
-/
import Derived.Test.YtpdfbnolhpakoaaGreatMg15
import Derived.Test.YtpdfbnolhpakoaaGreatMg16
import Derived.Test.YtpdfbnolhpakoaaGreatMg18
import Derived.Deep.RegionHeld3
namespace Go.Proofs.YtpdfbnolhpakoaaGreat
open Go.RowKit
theorem run_append_keeps {P:Program} (w:World) (base:Nat) (t ty e:TypeId) (i:TypeInfo) (z:Value) (size bytes:Nat) (ht:P.underlying t=some (.slice e)) (hi:P.info? e=some i) (hz:i.zero=some z)
    (hsize:i.size=size) (hby:i.bytes=bytes) (hzs:z.cells.size=size)
    (v:Value) (n:Nat) (xs:List Value) (hown:w.ownsRow base e size v n xs)
    (a:Addr) (m c:Nat) (news:List Value) (hl:news.length=m * size) (hnews:∀ j u,news[j]? = some u→w.cell? (a.add j)=some u) (h1:∀ u∈news,u.oneCell'=true)
    (hm:0<m) (h63:n+m≤maxLen) (hbytes:(n+m) * bytes≤140737488355328) (hbase:base≤w.heap.size) :
    ∃ g cap w',(Builtin.append_ #[t,t] ty #[v,.slice (some a) m c]).run P w=.ok (.slice (some ⟨g,0,none⟩) (n+m) cap) w' ∧
      w'.ownsRow base e size (.slice (some ⟨g,0,none⟩) (n+m) cap) (n+m) (xs++news)∧w'.ownsRow base e size v n xs ∧
      ((v=.slice (some ⟨g,0,none⟩) n cap∧w.grownBy w' (some g))∨(g=w.heap.size∧w.grownBy w' none)):=by
  subst hsize
  subst hby
  have hsmall:n+m≤9223372036854775807:=by simp only [maxLen] at h63;omega
  have hlen:(xs++news).length=(n+m) * i.size:=by rw[List.length_append,hown.1,hl,Nat.add_mul]
  have grown:∀ (old:Nat),old<n+m →
      (w.drew.alloc (.cells (xs.toArray++news.toArray++Builtin.zeroCells z.cells (grownCap w (n+m) old e - (n+m))) e)).ownsRow base e i.size
        (.slice (some ⟨w.heap.size,0,none⟩) (n+m) (grownCap w (n+m) old e)) (n+m) (xs++news) ∧
      w.grownBy (w.drew.alloc (.cells (xs.toArray++news.toArray++Builtin.zeroCells z.cells (grownCap w (n+m) old e - (n+m))) e)) none:=by
    intro old ho
    have hge:=grownCap_ge w (n+m) old e
    have hcm:grownCap w (n+m) old e≤maxLen:=grownCap_le_maxLen w (n+m) old e h63
    refine ⟨⟨hlen,.inr ⟨w.heap.size,_,_,rfl,hbase,heap_alloc_new w.drew _,hge,hcm,?_,?_⟩⟩,⟨rfl,rfl,rfl,by simp,fun k hk _=>heap_alloc_old w.drew _ hk⟩⟩
    · simp only [Array.size_append,List.size_toArray,size_zeroCells,hzs,hown.1,hl,← Nat.add_mul]
      congr 1
      omega
    · simp only [Array.toList_append,List.append_assoc]
      rw [← List.append_assoc,← hlen]
      exact List.take_left
  rcases hown.2 with ⟨rfl,rfl⟩ | ⟨g,cap,cur,rfl,hbg,hg,hnc,hcm,hcs,htake⟩
  · have hx:xs=[]:=List.eq_nil_of_length_eq_zero (by simpa using hown.1)
    subst hx
    have hr:=run_append_nil (P:=P) w t ty e i z ht hi hz a m c news hl hnews (by omega) (by omega) (by have hb:=hbytes;simp only [Nat.zero_add] at hb;omega)
    have hgr:=grown 0 (by omega)
    simp only [Nat.zero_add,List.nil_append,Array.empty_append] at hgr ⊢
    exact ⟨_,_,_,hr,hgr.1,World.ownsRow_nil _ _ _ _,.inr ⟨rfl,hgr.2⟩⟩
  · by_cases hroom:n+m≤cap
    · have hfit:n * i.size+news.length≤cur.size:=by rw[hl,hcs,← Nat.add_mul];exact Nat.mul_le_mul_right _ hroom
      have hr:=run_append_room (P:=P) w t ty e i ht hi g n cap cur hg a m c news hl hnews h1 hroom hfit
      have hs:(cur.toList.take (n * i.size)++news++cur.toList.drop (n * i.size+news.length)).toArray.size=cap * i.size:=by
        simp only [List.size_toArray,List.length_append,List.length_take,List.length_drop,Array.length_toList]
        omega
      refine ⟨g,cap,_,hr,⟨hlen,.inr ⟨g,cap,_,rfl,hbg,setRow_heap w g cur _ e _ hg,hroom,hcm,hs,?_⟩⟩,⟨hown.1,.inr ⟨g,cap,_,rfl,hbg,setRow_heap w g cur _ e _ hg,hnc,hcm,hs,?_⟩⟩,.inl ⟨rfl,rfl,rfl,rfl,by simp,fun k _ hk=>setRow_other w g k _ (fun e=>hk (by simp [e]))⟩⟩
      · rw [htake,← hlen]
        exact List.take_left
      · show (cur.toList.take (n * i.size)++news++cur.toList.drop (n * i.size+news.length)).take (n * i.size)=xs
        rw [htake,List.append_assoc,← hown.1]
        exact List.take_left
    · have hlie:∀ j u,xs[j]? = some u→w.cell? ((⟨g,0,none⟩:Addr).add j)=some u:=hown.cells (g:=g) rfl
      have hr:=run_append_grow (P:=P) w t ty e i z ht hi hz ⟨g,0,none⟩ n cap xs hown.1 hlie a m c news hl hnews (by omega) (by omega) (growslice_fits (by omega) hbytes)
      have hgr:=grown cap (by omega)
      exact ⟨_,_,_,hr,hgr.1,hown.kept hgr.2 (.inr (by simp [Value.ownBlock])),.inr ⟨rfl,hgr.2⟩⟩
theorem wpList_append_keeps {α:Type} (E:Lies α) {P:Program} (w:World) {ops:Array Oper} {rest:List Oper} {o:Oper} {a:Act} {Q:Exit→Act→World→Prop} (hgd:o.guard=none) (s x:Operand) (t:TypeId)
    (ho:o.op=.call { callee:=.builtin .append,args:=#[s,x],argTypes:=#[t,t] })
    (base:Nat) (e:TypeId) (i:TypeInfo) (z:Value) (bytes:Nat) (ht:P.underlying t=some (.slice e)) (hi:P.info? e=some i) (hz:i.zero=some z)
    (hsize:i.size=E.m) (hby:i.bytes=bytes) (hzs:z.cells.size=E.m)
    (v:Value) (n:Nat) (xs:List Value) (hs:a.eval s=v) (hown:w.ownsRow base e E.m v n xs)
    (A:Option Addr) (c m:Nat) (L:List α) (hm:L.length=m) (h0:0<m) (hx:a.eval x=.slice A m c) (hI:E.Row w A L) (hn:n+m≤1000000000) (hbytes:(n+m) * bytes≤140737488355328) (hbase:base≤w.heap.size)
    (h:∀ g cap w',w'.ownsRow base e E.m (.slice (some ⟨g,0,none⟩) (n+m) cap) (n+m) (xs++E.all L)→w'.ownsRow base e E.m v n xs→((v=.slice (some ⟨g,0,none⟩) n cap∧w.grownBy w' (some g))∨(g=w.heap.size∧w.grownBy w' none))→wpList P ops Q rest (a.put o.dst (.slice (some ⟨g,0,none⟩) (n+m) cap)) w'):wpList P ops Q (o :: rest) a w:=by
  subst hm
  rcases hI with hI | ⟨b,off,rfl,_,hI⟩
  · subst hI;simp at h0
  refine wpList_plain hgd fun K hK=>?_
  obtain ⟨g,cap,w',hr,h2,h3,h4⟩:=run_append_keeps (P:=P) w base t o.type e i z E.m bytes ht hi hz hsize hby hzs v n xs hown ⟨b,off,none⟩ L.length c (E.all L) (E.all_len L) (Lies.news hI) (E.all_single L) h0 (by unfold maxLen;omega) hbytes hbase
  unfold Oper.wp execOp
  simp only [ho,resolve,invoke,builtin,Sem.run_bind,Sem.run_pure,Result.andThen_ok,List.map_toArray,List.map_cons,List.map_nil,hs,hx,hr]
  exact hK _ _ (h g cap w' h2 h3 h4)
def blk (A:Option Addr):Option Nat:=A.map Addr.block
theorem blk_own (A:Option Addr) (n c:Nat):(Value.slice A n c).ownBlock=blk A:=by cases A <;> rfl
structure Seeks (tH tW:TypeId) (x:Option Nat) (w w':World):Prop where
  os:w'.os=w.os
  tape:w'.tape=w.tape
  output:w'.output=w.output
  size:w.heap.size≤w'.heap.size
  block:∀ (b:Nat) (cs:Array Value) (t:TypeId) (fr:Nat × Nat),w.heap[b]? = some (Obj.cells cs t fr)→t≠tH→t≠tW→some b≠x→w'.heap[b]? = some (Obj.cells cs t fr)
theorem Seeks.refl (tH tW:TypeId) (x:Option Nat) (w:World):Seeks tH tW x w w:=⟨rfl,rfl,rfl,Nat.le_refl _,fun _ _ _ _ h _ _ _=>h⟩
theorem Seeks.trans {tH tW:TypeId} {x:Option Nat} {a b c:World} (h:Seeks tH tW x a b) (h':Seeks tH tW x b c):Seeks tH tW x a c :=
  ⟨h'.os.trans h.os,h'.tape.trans h.tape,h'.output.trans h.output,Nat.le_trans h.size h'.size,fun k cs t fr hk h1 h2 h3=>h'.block k cs t fr (h.block k cs t fr hk h1 h2 h3) h1 h2 h3⟩
theorem Tame.seeks {tH tW:TypeId} {w w':World} (h:Tame tH tW w w') (x:Option Nat):Seeks tH tW x w w':=⟨h.os,h.tape,h.output,h.size,fun b cs t fr hb h1 h2 _=>h.block b cs t fr hb h1 h2⟩
theorem Seeks.new {tH tW:TypeId} {x y:Option Nat} {w w1 w2:World} (h1:Seeks tH tW x w w1) (h2:Seeks tH tW y w1 w2) (hy:∀ k,y=some k→w.heap.size≤k∨x=some k):Seeks tH tW x w w2 :=
  ⟨h2.os.trans h1.os,h2.tape.trans h1.tape,h2.output.trans h1.output,Nat.le_trans h1.size h2.size,fun b cs t fr hb e1 e2 e3=>h2.block b cs t fr (h1.block b cs t fr hb e1 e2 e3) e1 e2 (fun e4=>by
    rcases hy b e4.symm with h | h
    · have:=(Array.getElem?_eq_some_iff.1 hb).1;omega
    · exact e3 h.symm)⟩
theorem grown_seeks {tH tW:TypeId} {x:Option Nat} {w w':World} (hg:w.grownBy w' x):Seeks tH tW x w w' :=
  ⟨hg.os,hg.tape,hg.output,hg.size,fun b cs t fr hb _ _ h3=>by rw[hg.block b (Array.getElem?_eq_some_iff.1 hb).1 h3];exact hb⟩
theorem own_seeks {tH tW:TypeId} {x:Option Nat} {w w':World} {base:Nat} {e:TypeId} {size:Nat} {v:Value} {n:Nat} {xs:List Value} (h:w.ownsRow base e size v n xs) (ht:Seeks tH tW x w w') (h1:e≠tH) (h2:e≠tW) (h3:∀ k,v.ownBlock=some k→x≠some k):w'.ownsRow base e size v n xs:=by
  refine ⟨h.1,?_⟩
  rcases h.2 with hn | ⟨g,cap,cur,rfl,hb,hg,rest⟩
  · exact .inl hn
  · exact .inr ⟨g,cap,cur,rfl,hb,ht.block g cur e (0,0) hg h1 h2 (fun e2=>h3 g rfl e2.symm),rest⟩
theorem own_prefix {w:World} {base:Nat} {e:TypeId} {size:Nat} {A:Option Addr} {n m c:Nat} {xs ys:List Value} (h:w.ownsRow base e size (.slice A (n+m) c) (n+m) (xs++ys)) (hl:xs.length=n * size) (hm:0<m):w.ownsRow base e size (.slice A n c) n xs:=by
  refine ⟨hl,?_⟩
  rcases h.2 with ⟨-,h0⟩ | ⟨g,cap,cur,hv,hb,hg,hc,hx,hs,ht⟩
  · omega
  · cases hv
    refine .inr ⟨g,c,cur,rfl,hb,hg,by omega,hx,hs,?_⟩
    have:=congrArg (List.take (n * size)) ht
    rw [List.take_take,Nat.min_eq_left (Nat.mul_le_mul_right _ (Nat.le_add_right _ _)),← hl,List.take_left] at this
    rw [← hl]
    exact this
def Offside (B:Option Addr) (M:List WayM):Prop:=∀ m∈M,∀ k,blk m.A=some k→blk B≠some k
def Later (n:Nat) (M:List WayM):Prop:=∀ m∈M,∀ k,blk m.A=some k→n≤k
theorem Later.nil (n:Nat):Later n []:=fun _ h=>by cases h
theorem Later.append {n:Nat} {M N:List WayM} (h:Later n M) (h':Later n N):Later n (M++N):=fun m hm=>by
  rcases List.mem_append.1 hm with hm | hm
  · exact h m hm
  · exact h' m hm
theorem Later.mono {n k:Nat} {M:List WayM} (h:Later n M) (hk:k≤n):Later k M:=fun m hm j hj=>Nat.le_trans hk (h m hm j hj)
theorem Later.aside {n:Nat} {B:Option Addr} {N:List WayM} (h:Later n N) (hB:∀ k,blk B=some k→k<n):Offside B N:=fun m hm k hk hb=>by
  have h1:=h m hm k hk
  have h2:=hB k hb
  omega
theorem Offside.append {B:Option Addr} {M N:List WayM} (h:Offside B M) (h':Offside B N):Offside B (M++N):=fun m hm=>by
  rcases List.mem_append.1 hm with hm | hm
  · exact h m hm
  · exact h' m hm
theorem own_lt {w:World} {base:Nat} {A:Option Addr} {c:Nat} {L:List Wk.Stp} (h:OwnS base w A c L):∀ k,blk A=some k→base≤k∧k<w.heap.size:=fun k hk=>by
  have hv:(Value.slice A L.length c).ownBlock=some k:=(blk_own _ _ _).trans hk
  exact h.lt k hv
theorem Offside.of_own {w:World} {base:Nat} {B:Option Addr} {M:List WayM} (hM:∀ m∈M,OwnS base w m.A m.c m.way.steps) (hB:∀ k,blk B=some k→w.heap.size≤k):Offside B M:=fun m hm k hk hb=>by
  have h1:=(own_lt (hM m hm) k hk).2
  have h2:=hB k hb
  omega
end Go.Proofs.YtpdfbnolhpakoaaGreat
namespace Go.Proofs.YtpdfbnolhpakoaaGreat
open Go.RowKit
theorem own_none (w:World) {g base:Nat} (hg:w.heap.size=g) (hb:base≤g):(w.alloc (.cells #[] 59)).ownsRow base 59 3 (.slice (some ⟨g,0,none⟩) 0 0) 0 []:=by
  subst hg
  exact ⟨rfl,.inr ⟨w.heap.size,0,#[],rfl,hb,heap_alloc_new _ _,Nat.le_refl _,by unfold maxLen;omega,rfl,rfl⟩⟩
theorem slice_isIn {P:Program} (W:World) (d:Nat) (t e:TypeId) (a:Addr) (l c:Nat) (h:P.underlying t=some (.slice e)):(Op.equalIn (d+1) t (.slice (some a) l c) (.slice none 0 0)).run P W=.ok false W:=by
  simp [Op.equalIn,run_underlying h]
theorem slice_isAt {P:Program} (W:World) (t e:TypeId) (a:Addr) (l c:Nat) (h:P.underlying t=some (.slice e)):(Op.equal t (.slice (some a) l c) (.slice none 0 0)).run P W=.ok false W:=slice_isIn W 9999 t e a l c h
theorem slice_is {P:Program} (W:World) (t e:TypeId) (a:Addr) (l c:Nat) (h:P.underlying t=some (.slice e)):Sem.run P (binOp .eql t (.slice (some a) l c) (.slice none 0 0)) W=.ok (.bool false) W:=by
  simp [binOp,slice_isAt W t e a l c h]
set_option maxHeartbeats 4000000 in
set_option maxRecDepth 100000 in
theorem pClone_any (A:Option Addr) (c:Nat) (L:List Wk.Stp) (w:World) (h:LStp.Row w A L) (h0:0<L.length) (hl:L.length≤1000) :
    Calls Tryz.prog 30 #[.slice A L.length c] w fun e w'=>∃ g d,e=.returned (.slice (some ⟨g,0,none⟩) L.length d)∧OwnS w.heap.size w' (some ⟨g,0,none⟩) d L∧Below w.heap.size w w':=by
  --[
  obtain ⟨i0,hi,hz0,hz1,hz2⟩:=info_parts infoStp
  obtain ⟨b,o,rfl,hb,-⟩:=h.at h0
  have OE:=Lib.hid (own_none w (g:=w.heap.size) rfl (Nat.le_refl _))
  have X:=Lib.hid ((Below.refl w.heap.size w).alloc (Nat.le_refl _) (.cells #[] 59))
  have HR:=Lib.hid (h.below rfl X.out)
  have EQ:=fun W=>slice_is (P:=Tryz.prog) W 35 59 ⟨b,o,none⟩ L.length c Tryz.underlying35
  clear h
  go_enter Tryz.func30,Tryz.ntmps30
  go_wp2_with (at_builtin;refine wpList_append_row LStp _ rfl (.tmp 5) (.tmp 6) 35 rfl w.heap.size 59 i0 _ 24 Tryz.underlying35 hi hz0 hz1 hz2 rfl _ _ _ rfl OE.out (some ⟨b,o,none⟩) c L.length L rfl h0 rfl HR.out (by omega) (by omega) (by simp) ?_;intro g1 cap1 w3 hown1 hg1 hb1)
  go_ret
  rw [Nat.zero_add,List.nil_append] at hown1
  exact ⟨g1,cap1,rfl,hown1,X.out.grown hg1 X.out.size (fun k hk=>by cases hk;exact Nat.le_refl _)⟩
  --]
set_option maxHeartbeats 8000000 in
set_option maxRecDepth 100000 in
theorem pwOuts_own (p:Pl.Plan) (A:Option Addr) (c:Nat) (A':Option Addr) (c':Nat) (s f:Int) (w:World) (h:PlanIn w p A A') (_hl:p.secs.length≤24) :
    Calls Tryz.prog 77 #[planV p A c A' c',.int .i64 s,.int .i64 f] w (StepsOwn (Wk.outs p s f) w):=by
  --[
  obtain ⟨i0,hi,hz0,hz1,hz2⟩:=info_parts infoStp
  have R0:=heap_alloc_new w (planO p A c A' c')
  have XX:=(Below.refl w.heap.size w).alloc (Nat.le_refl _) (planO p A c A' c')
  have X0:=Lib.hid XX
  obtain ⟨⟨p0,p1,p2,p3,p4,p5⟩,-,gp⟩:=row6 R0
  have EN:=Lib.hid (pwEnds_any p A c A' c' s _ (h.below XX))
  have hle:=endsAt_le p s
  rw [outs_ends]
  clear R0 XX h
  generalize endsAt p s=q at EN hle
  obtain ⟨x,n⟩:=q
  simp only at hle
  simp only
  by_cases h0:f<0
  · have D2:decide (f<0)=true:=dec_t h0
    rw [if_pos (.inl h0)]
    clear h0
    go_enter Tryz.func77,Tryz.ntmps77
    go_wp2_with fail
    refine EN.out.mono ?_;rintro e w1 ⟨rfl,hb1⟩
    have B1:=Lib.hid ((X0.out.trans (hb1.mono X0.out.size)).alloc (X0.out.trans (hb1.mono X0.out.size)).size (wkEO x))
    clear p0 p1 p2 p3 p4 p5 hb1 EN
    go_wp2_with fail
    go_ret
    exact ⟨none,0,rfl,World.ownsRow_nil _ _ _ _,B1.out⟩
  have D2:decide (f<0)=false:=dec_f h0
  by_cases h2:(n:Int)≤f
  · have D3:decide ((n:Int)≤f)=true:=dec_t h2
    rw [if_pos (.inr h2)]
    clear h0 h2
    go_enter Tryz.func77,Tryz.ntmps77
    go_wp2_with fail
    refine EN.out.mono ?_;rintro e w1 ⟨rfl,hb1⟩
    have B1:=Lib.hid ((X0.out.trans (hb1.mono X0.out.size)).alloc (X0.out.trans (hb1.mono X0.out.size)).size (wkEO x))
    clear p0 p1 p2 p3 p4 p5 hb1 EN
    go_wp2_with fail
    go_ret
    exact ⟨none,0,rfl,World.ownsRow_nil _ _ _ _,B1.out⟩
  have D3:decide ((n:Int)≤f)=false:=dec_f h2
  rw [if_neg (by omega)]
  by_cases h1:0<f
  · have D4:decide (0<f)=true:=dec_t h1
    rw [if_pos h1]
    clear h0 h2 h1
    go_enter Tryz.func77,Tryz.ntmps77
    go_wp2_with fail
    refine EN.out.mono ?_;rintro e w1 ⟨rfl,hb1⟩
    have B1:=Lib.hid ((X0.out.trans (hb1.mono X0.out.size)).alloc (X0.out.trans (hb1.mono X0.out.size)).size (wkEO x))
    clear p0 p1 p2 p3 p4 p5 hb1 EN
    go_wp2_with fail
    go_ret
    exact ⟨_,_,rfl,own_one (w1.alloc (wkEO x)) ⟨s,f,0⟩ (by simp) (by have:=B1.out.size;simpa using this),B1.out.alloc B1.out.size _⟩
  · have D4:decide (0<f)=false:=dec_f h1
    rw [if_neg h1]
    obtain rfl:f=0:=by omega
    have hn1:1≤n:=by omega
    clear h0 h2 h1
    go_enter Tryz.func77,Tryz.ntmps77
    go_wp2_with fail
    refine EN.out.mono ?_;rintro e w1 ⟨rfl,hb1⟩
    have B1:=Lib.hid ((X0.out.trans (hb1.mono X0.out.size)).alloc (X0.out.trans (hb1.mono X0.out.size)).size (wkEO x))
    clear p0 p1 p2 p3 p4 p5 hb1 EN
    go_wp2_with fail
    go_loopw [9,10] (fun v i wr=>∃ k:Nat,k+1≤n∧i=.int .i64 ((k+1:Nat):Int)∧LegSt w wr v (legsTo s k)) (fun _ i _=>n - (intOf i).toNat)
    case atStart=>exact ⟨0,hn1,rfl,B1.out,World.ownsRow_nil _ _ _ _⟩
    case round =>
      clear B1
      obtain ⟨k,hk,rfl,hS⟩:=hrel
      have HS:=Lib.hid hS
      have hS1:=hS.1.size
      have hlen:=legsTo_len s k
      clear hS
      by_cases hlt:k+1<n
      · have d1:decide (((k+1:Nat):Int)<(n:Int))=true:=dec_t (by omega)
        have HN:=Lib.hid (legsTo_succ s k)
        have HX:=Lib.hid ((Below.refl wr.heap.size wr).alloc (Nat.le_refl _) (stpO ⟨s,0,((k+1:Nat):Int)⟩))
        have NW:=Lib.hid (row_one wr ⟨s,0,((k+1:Nat):Int)⟩ rfl)
        have OW:=Lib.hid (ownsRow_below HS.out.2 HX.out)
        go_wp2_with (at_builtin;refine wpList_append_row LStp _ rfl (.tmp 35) (.tmp 39) 35 rfl w.heap.size 59 i0 _ 24 Tryz.underlying35 hi hz0 hz1 hz2 rfl _ _ _ rfl OW.out (some ⟨wr.heap.size,0,none⟩) 1 1 [⟨s,0,((k+1:Nat):Int)⟩] rfl (by decide) rfl NW.out (by omega) (by omega) (by simp;omega) ?_;intro g1 cap1 w3 hown1 hg1 hb1)
        have H3:=Lib.hid (show LegSt w w3 (.slice (some ⟨g1,0,none⟩) (k+1) cap1) (legsTo s (k+1)) from by
          refine ⟨(HS.out.1.trans (HX.out.mono HS.out.1.size)).grown hg1 (Nat.le_trans HS.out.1.size HX.out.size) (fun b hb=>(OW.out.lt b hb).1),?_⟩
          rw [hlen] at hown1
          rw [HN.out,LStp.all_append,List.length_append,hlen]
          exact hown1)
        clear hown1 hg1 hb1
        go_wp2_with fail
        go_roundw
        case rel=>exact ⟨k+1,by omega,by go_num,H3.out⟩
        case measure=>simp [intOf];omega
      · have d1:decide (((k+1:Nat):Int)<(n:Int))=false:=dec_f (by omega)
        obtain rfl:n=k+1:=by omega
        obtain ⟨-,B,cp,rfl,-,-⟩:=Lies.Row.of_own HS.out.2
        go_wp2_with fail
        go_ret
        exact ⟨B,cp,rfl,HS.out.2,HS.out.1⟩
  --]
abbrev seekO (p:Pl.Plan) (A:Option Addr) (c:Nat) (A':Option Addr) (c':Nat) (b:Int) (n:Nat) (v:Value):Obj:=.cells #[.int .i64 p.ov,.int .i64 p.ap,.int .i64 p.se,.int .i64 p.ho,.slice A p.secs.length c,.slice A' p.sigs.length c',.int .i64 b,.int .i64 n,v] 117
def SeekAt (p:Pl.Plan) (A:Option Addr) (c:Nat) (A':Option Addr) (c':Nat) (b:Int) (g:Nat) (w0 wr:World) (v:Value) (n:Nat) (M:List WayM):Prop :=
  Below w0.heap.size w0 wr∧w0.heap.size≤g∧wr.heap[g]? = some (seekO p A c A' c' b n v)∧wr.ownsRow w0.heap.size 37 LWay.m v M.length (LWay.all M)∧∀ m∈M,OwnS w0.heap.size wr m.A m.c m.way.steps
abbrev PSeek (x:Option Nat) (w w':World):Prop:=Seeks 117 37 x w w'
def SeekGives (p:Pl.Plan) (A:Option Addr) (c:Nat) (A':Option Addr) (c':Nat) (b:Int) (g:Nat) (w0:World) (h:Cr.HSt) (B:Option Addr) (d:Nat) (st:List Wk.Stp) (M:List WayM) (w:World) (e:Ending) (w':World):Prop :=
  (h.long=true∧e=.returned (.bool false)∧Below w0.heap.size w0 w') ∨
  (h.long=false∧e=.returned (.bool true)∧∃ v N,(M++N).map WayM.way=h.out∧SeekAt p A c A' c' b g w0 w' v h.tries (M++N)∧Later w.heap.size N∧OwnS w0.heap.size w' B d st∧PSeek (blk B) w w')
theorem set_ptame {w:World} {g i:Nat} {cs:Array Value} {tH tW:TypeId} {u:Value} (h:w.heap[g]? = some (.cells cs tH (0,0))):Tame tH tW w (w.setCell ⟨g,i,none⟩ u):=by
  have B:=(Below.refl 0 w).setCell (p:=⟨g,i,none⟩) (Nat.zero_le _) u
  refine ⟨B.os,B.tape,B.output,B.size,fun b cs' t fr hb h1 _=>?_⟩
  have hne:b≠g:=fun e=>by
    subst e
    rw [h] at hb
    cases hb
    exact h1 rfl
  rw [heap_setCell_other _ _ _ _ hne]
  exact hb
theorem set_pown {w:World} {g i:Nat} {cs:Array Value} {t:TypeId} {u:Value} (h:w.heap[g]? = some (.cells cs t (0,0))) {base:Nat} {e:TypeId} {size:Nat} {v:Value} {n:Nat} {xs:List Value} (ho:w.ownsRow base e size v n xs) (he:e≠t):(w.setCell ⟨g,i,none⟩ u).ownsRow base e size v n xs :=
  own_kept ho fun b hb=>heap_setCell_other _ _ _ _ fun e'=>own_block ho h he ((show b=g from e') ▸ hb)
section
variable {p : Pl.Plan} {A : Option Addr} {c : Nat} {A' : Option Addr} {c' : Nat} {b : Int} {g : Nat} {w0 wr : World} {v : Value} {n : Nat} {M : List WayM}
theorem SeekAt.below {w2:World} (hh:SeekAt p A c A' c' b g w0 wr v n M) (hb:Below wr.heap.size wr w2):SeekAt p A c A' c' b g w0 w2 v n M:=by
  obtain ⟨h1,h2,h3,h5,h6⟩:=hh
  exact ⟨h1.trans (hb.mono h1.size),h2,(hb.block _ (Array.getElem?_eq_some_iff.1 h3).1).trans h3,ownsRow_below h5 hb,fun m hm=>ownsRow_below (h6 m hm) hb⟩
theorem SeekAt.came {t:Int} {k:Nat} (hh:SeekAt p A c A' c' b g w0 wr v n M) (ht:t=k):SeekAt p A c A' c' b g w0 (wr.setCell ⟨g,7,none⟩ (.int .i64 t)) v k M∧Tame 117 37 wr (wr.setCell ⟨g,7,none⟩ (.int .i64 t)):=by
  subst ht
  obtain ⟨h1,h2,h3,h5,h6⟩:=hh
  refine ⟨⟨h1.setCell h2 _,h2,?_,set_pown h3 h5 (by decide),fun m hm=>set_pown h3 (h6 m hm) (by decide)⟩,set_ptame h3⟩
  rw [heap_setCell_same _ _ _ _ _ _ h3];rfl
theorem SeekAt.grown {x:Option Nat} {w2:World} (hh:SeekAt p A c A' c' b g w0 wr v n M) (hg:wr.grownBy w2 x) (hb:Below w0.heap.size w0 w2) (hx:∀ k,x=some k→(∃ cs,wr.heap[k]? = some (.cells cs 59 (0,0)))∧∀ m∈M,blk m.A≠some k):SeekAt p A c A' c' b g w0 w2 v n M:=by
  obtain ⟨h1,h2,h3,h5,h6⟩:=hh
  have hk:∀ (j:Nat) (cs:Array Value) (t:TypeId),wr.heap[j]? = some (Obj.cells cs t (0,0))→t≠59→w2.heap[j]? = wr.heap[j]?:=fun j cs t hj ht=>hg.block j (Array.getElem?_eq_some_iff.1 hj).1 fun e=>by
    obtain ⟨⟨cs',hc⟩,-⟩:=hx j e.symm
    rw [hj] at hc
    cases hc
    exact ht rfl
  refine ⟨hb,h2,(hk g _ _ h3 (by decide)).trans h3,own_kept h5 fun j hj=>?_,fun m hm=>own_kept (h6 m hm) fun j hj=>hg.block j ((h6 m hm).lt j hj).2 fun e=>?_⟩
  · rcases h5.2 with ⟨rfl,-⟩ | ⟨g',cap',cur',rfl,-,hg',-⟩
    · cases hj
    · obtain rfl:g'=j:=Option.some.inj hj
      exact hk _ _ _ hg' (by decide)
  · exact (hx j e.symm).2 m hm (by rw[blk_own] at hj;exact hj)
end
theorem way_pnew (w:World) (A:Option Addr) (c n:Nat) (e:Int) {L:List Wk.Stp} (hn:L.length=n):LWay.Row (w.alloc (.cells #[.slice A n c,.int .i64 e] 37)) (some ⟨w.heap.size,0,none⟩) [⟨A,c,⟨L,e⟩⟩]:=by
  subst hn
  exact Lies.Row.fresh (E:=LWay) w [⟨A,c,⟨L,e⟩⟩] 37
theorem grown_ptame {tH tW:TypeId} {w w':World} {base size n:Nat} {v:Value} {xs:List Value} (ho:w.ownsRow base tW size v n xs) (hg:w.grownBy w' v.ownBlock):Tame tH tW w w' :=
  ⟨hg.os,hg.tape,hg.output,hg.size,fun b cs t fr hb _ h2=>by
    rw [hg.block b (Array.getElem?_eq_some_iff.1 hb).1 (fun e=>?_)]
    · exact hb
    · rcases ho.2 with ⟨rfl,-⟩ | ⟨g,cap,cur,rfl,-,hgg,-⟩
      · cases e
      · obtain rfl:b=g:=Option.some.inj e
        rw [hb] at hgg
        cases hgg
        exact h2 rfl⟩
theorem own_paside {w w':World} {base base':Nat} {e e':TypeId} {size size':Nat} {v v':Value} {n n':Nat} {xs xs':List Value} (h:w.ownsRow base e size v n xs) (h':w.ownsRow base' e' size' v' n' xs') (he:e≠e') (hg:w.grownBy w' v'.ownBlock):w'.ownsRow base e size v n xs:=by
  refine h.kept hg ?_
  cases hk:v.ownBlock with
  | none=>exact .inl rfl
  | some k=>exact .inr fun e2=>own_types h h' he k hk e2.symm
theorem way_padded {p:Pl.Plan} {A:Option Addr} {c:Nat} {A':Option Addr} {c':Nat} {b:Int} {g:Nat} {w0 w3 w4:World} {v' v4:Value} {n:Nat} {M:List WayM} (hh:SeekAt p A c A' c' b g w0 w3 v' n M) {m:WayM} (hm:OwnS w0.heap.size w3 m.A m.c m.way.steps) {o:Obj}
    (hown:w4.ownsRow w0.heap.size 37 LWay.m v4 (M.length+1) (LWay.all M++LWay.all [m])) (hg:(w3.alloc o).grownBy w4 v'.ownBlock) :
    w4.heap[g]? = some (seekO p A c A' c' b n v')∧SeekAt p A c A' c' b g w0 (w4.setCell ⟨g,8,none⟩ v4) v4 n (M++[m])∧Tame 117 37 w3 (w4.setCell ⟨g,8,none⟩ v4):=by
  obtain ⟨h1,h2,h3,h5,h6⟩:=hh
  have hgl:=(Array.getElem?_eq_some_iff.1 h3).1
  have h3':w4.heap[g]? = some (seekO p A c A' c' b n v'):=(hg.block g (by simp;omega) (fun e=>own_block h5 h3 (by decide) e.symm)).trans ((heap_alloc_old _ _ hgl).trans h3)
  have hS:∀ {B:Option Addr} {d:Nat} {X:List Wk.Stp},OwnS w0.heap.size w3 B d X→OwnS w0.heap.size (w4.setCell ⟨g,8,none⟩ v4) B d X:=fun hX=>set_pown h3' (own_paside (World.ownsRow.alloc hX o) (h5.alloc o) (by decide) hg) (by decide)
  have hT1:=(Below.refl w3.heap.size w3).alloc (Nat.le_refl _) o
  refine ⟨h3',⟨((h1.alloc h1.size o).grown hg (by have:=h1.size;simp;omega) (fun k hk=>(h5.lt k hk).1)).setCell h2 _,h2,?_,?_,?_⟩,((Below.tame hT1 _ _).trans (grown_ptame (h5.alloc o) hg)).trans (set_ptame h3')⟩
  · rw[heap_setCell_same _ _ _ _ _ _ h3'];rfl
  · rw [List.length_append,List.length_singleton,LWay.all_append]
    exact set_pown h3' hown (by decide)
  · intro x hx
    rcases List.mem_append.1 hx with hx | hx
    · exact hS (h6 x hx)
    · rw [List.mem_singleton] at hx
      subst hx
      exact hS hm
end Go.Proofs.YtpdfbnolhpakoaaGreat
