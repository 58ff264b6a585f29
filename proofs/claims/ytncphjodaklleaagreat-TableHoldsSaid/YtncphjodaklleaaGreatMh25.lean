/- Lemmas. -/
import Derived.Test.YtncphjodaklleaaGreatMh24
import Derived.Lib.IndexLaws
import Derived.Lib.MinMax
import Derived.Shelf.Spec.TrailingZeros
set_option maxHeartbeats 4000000
set_option maxRecDepth 100000
namespace Go.Proofs.YtncphjodaklleaaGreat
open Lib (hid)
open Go.RowKit
def LTx:Lies (List UInt8):=⟨1,by decide,λx=>[.string (txt x)],λ_=>rfl,λy u hu=>by
 simp at hu
 subst hu;rfl⟩
theorem yL {w:World} {b o:Nat} {x:List UInt8} (h:LTx.On w b o x):w.cell? ⟨b,o,none⟩=some (.string (txt x)):=h 0 _ rfl
theorem AcC:(Tryz.prog.info? 9).map (λi=>(i.zero,i.size,i.bytes))=some (some (.string ByteArray.empty),1,16):=by kernel_rfl
def LBo:Lies Bool:=⟨1,by decide,λx=>[.bool x],λ_=>rfl,λy u hu=>by
 simp at hu
 subst hu;rfl⟩
theorem ArB {w:World} {b o:Nat} {x:Bool} (h:LBo.On w b o x):w.cell? ⟨b,o,none⟩=some (.bool x):=h 0 _ rfl
theorem AqC:(Tryz.prog.info? 4).map (λi=>(i.zero,i.size,i.bytes))=some (some (.bool false),1,1):=by kernel_rfl
structure TableM where
 A0:Option Addr
 c0:Nat
 A1:Option Addr
 c1:Nat
 A2:Option Addr
 c2:Nat
 A4:Option Addr
 c4:Nat
 A5:Option Addr
 c5:Nat
 t:Tb.Table
abbrev tbV (m:TableM):Value:=.agg #[.slice m.A0 m.t.names.length m.c0,.slice m.A1 m.t.points.length m.c1,.slice m.A2 m.t.sigs.length m.c2,.int .i64 m.t.settle,.slice m.A4 m.t.routes.length m.c4,.slice m.A5 m.t.bars.length m.c5]
abbrev tbO (m:TableM):Obj:=.cells #[.slice m.A0 m.t.names.length m.c0,.slice m.A1 m.t.points.length m.c1,.slice m.A2 m.t.sigs.length m.c2,.int .i64 m.t.settle,.slice m.A4 m.t.routes.length m.c4,.slice m.A5 m.t.bars.length m.c5] 34
structure TableIn (w:World) (m:TableM):Prop where
 p0:LTx.Row w m.A0 m.t.names
 p1:LBo.Row w m.A1 m.t.points
 p2:LTx.Row w m.A2 m.t.sigs
 p4:RoutesIn w m.A4 m.t.routes
 p5:SetsIn w m.A5 m.t.bars
theorem TableIn.below {w w':World} {m:TableM} (h:TableIn w m) (hb:Below w.heap.size w w'):TableIn w' m :=
 ⟨h.p0.below rfl hb,h.p1.below rfl hb,h.p2.below rfl hb,h.p4.below hb,h.p5.below hb⟩
def AlZ (x:Tb.Table × Int) (w:World) (e:Ending) (w':World):Prop:=∃ m:TableM,m.t=x.1/\e=.returned (.tuple #[tbV m,.int .i64 x.2])/\TableIn w' m/\Below w.heap.size w w'
theorem Lies.Row.two {α:Type} {E:Lies α} {w:World} {A:Option Addr} {L:List α} (h:E.Row w A L) {i k:Nat} {x y:α} (hx:L[i]?=some x) (hy:L[k]?=some y):∃ b o,A=some ⟨b,o,none⟩/\b<w.heap.size/\E.On w b (o+i*E.m) x/\E.On w b (o+k*E.m) y:=by
 obtain ⟨h1,rfl⟩:=ArO hx
 obtain ⟨h2,rfl⟩:=ArO hy
 obtain ⟨b,o,e1,hb,on1⟩:=h.at h1
 obtain ⟨b',o',e2,-,on2⟩:=h.at h2
 rw [e1] at e2
 cases e2
 exact ⟨b,o,e1,hb,on1,on2⟩
theorem eO {w:World} {g:Nat} {m:TableM} (h:w.heap[g]?=some (tbO m)):(w.cell? ⟨g,0,none⟩=some (.slice m.A0 m.t.names.length m.c0)/\w.cell? ⟨g,1,none⟩=some (.slice m.A1 m.t.points.length m.c1)/\w.cell? ⟨g,2,none⟩=some (.slice m.A2 m.t.sigs.length m.c2)/\w.cell? ⟨g,3,none⟩=some (.int .i64 m.t.settle)/\w.cell? ⟨g,4,none⟩=some (.slice m.A4 m.t.routes.length m.c4)/\w.cell? ⟨g,5,none⟩=some (.slice m.A5 m.t.bars.length m.c5))/\g<w.heap.size :=
 ⟨⟨AuJ w g 0 _ _ _ h,AuJ w g 1 _ _ _ h,AuJ w g 2 _ _ _ h,AuJ w g 3 _ _ _ h,AuJ w g 4 _ _ _ h,AuJ w g 5 _ _ _ h⟩,(ArN h).1⟩
theorem yM {w:World} {A:Option Addr} {L:List Bool} (h:LBo.Row w A L) {k:Nat} (hk:k<L.length):∃ b o,A=some ⟨b,o,none⟩/\b<w.heap.size/\w.cell? ⟨b,o+k,none⟩=some (.bool (L.getD k false)):=by
 obtain ⟨b,o,e,hb,on⟩:=h.at hk
 have c0:=ArB on
 rw [show k*LBo.m=k from Nat.mul_one k] at c0
 exact ⟨b,o,e,hb,by rw[c0,Tb.getD_at (ArP hk)]⟩
theorem AhL (k:Nat) (w:World):Calls Tryz.prog 89 #[.int .i64 k] w λe w'=>e=.returned (.int .u32 ((2 ^ (k % 32):Nat):Int))/\w'=w:=by
 --[
 have Q:=hid (Bs.AeQ (k % 32) (Nat.mod_lt _ (by decide)))
 have q1:(k:Int).tmod 32=((k % 32:Nat):Int):=by rw[Int.tmod_eq_emod_of_nonneg (ArV k)];omega
 have i0:(0:Int)<=((k % 32:Nat):Int):=ArV _
 go_enter Tryz.func89,Tryz.ntmps89
 go_wp2
 go_ret
 exact ⟨by rw[<-Q.out] <;> rfl,rfl⟩
 --]
theorem pM (A:Option Addr) (c:Nat) (L:List Nat) (n:Int) (w:World) (h0:-9223372036854775808<=n/\n<=9223372036854775807) (_hl:L.length<=1000000000) :
 Calls Tryz.prog 88 #[.slice A L.length c,.int .i64 n] w λe w'=>e=.returned (.bool (Bs.fits L n))/\w'=w:=by
 --[
 by_cases hn:0<=n
 ·obtain ⟨k,rfl⟩:∃ k:Nat,n=(k:Int):=⟨n.toNat,by omega⟩
  have d0:decide ((0:Int)<=(k:Int))=true:=aC hn
  have q:IntKind.i64.wrap ((k:Int).tdiv 32)=((k / 32:Nat):Int):=by
   rw [Int.tdiv_eq_ediv_of_nonneg hn,IntWalk.i64_in _ (by omega)];omega
  have E:Bs.fits L (k:Int)=decide (((k / 32:Nat):Int)<(L.length:Int)):=by
   unfold Bs.fits
   rw [d0,Bool.true_and,AuA]
   congr 1
   rw [eq_iff_iff];omega
  have HE:=hid E
  clear E
  go_enter Tryz.func88,Tryz.ntmps88
  go_wp2
  go_ret
  exact ⟨by rw[HE.out] <;> rfl,rfl⟩
 ·have d0:decide ((0:Int)<=n)=false:=aB hn
  have HE:=hid (show Bs.fits L n=false from by unfold Bs.fits;rw[d0];rfl)
  clear hn
  go_enter Tryz.func88,Tryz.ntmps88
  go_wp2
  go_ret
  exact ⟨by rw[HE.out] <;> rfl,rfl⟩
 --]
theorem yN (w:World) (L:List Nat) (hl:L.length<=1000000000):(w.alloc (.cells (LWd.all L).toArray 72)).ownsRow w.heap.size 72 LWd.m (.slice (some ⟨w.heap.size,0,none⟩) L.length L.length) L.length (LWd.all L):=by
 have e:(LWd.all L).length=L.length*LWd.m:=LWd.all_len L
 refine ⟨e,.inr ⟨w.heap.size,L.length,_,rfl,ArT _,AuH _ _,ArT _,by unfold maxLen;omega,by simpa using e,?_⟩⟩
 rw [<-e]
 simp
theorem AhM (n:Int) (w:World) (h0:-9223372036854775808<=n/\n<=1000000000):Calls Tryz.prog 87 #[.int .i64 n] w (SetOwn (Bs.new n) w):=by
 --[
 by_cases hn:n<1
 ·have D0:decide (n<1)=true:=aC hn
  have E:Bs.new n=[]:=AsB hn
  rw [E]
  clear hn
  go_enter Tryz.func87,Tryz.ntmps87
  go_wp2
  go_ret
  exact ⟨_,rfl,⟨rfl,.inl ⟨rfl,rfl⟩⟩,Below.refl _ _⟩
 have D0:decide (n<1)=false:=aB hn
 have E:Bs.new n=List.replicate ((n-1).toNat / 32+1) 0:=AsA hn
 rw [E]
 have q1:IntKind.i64.wrap (n-1)=n-1:=IntWalk.i64_in _ (by omega)
 have q2:IntKind.i64.wrap ((n-1).tdiv 32)=(((n-1).toNat / 32:Nat):Int):=by
  rw [Int.tdiv_eq_ediv_of_nonneg (by omega),IntWalk.i64_in _ (by omega)];omega
 have q3:IntKind.i64.wrap ((((n-1).toNat / 32:Nat):Int)+1)=(((n-1).toNat / 32+1:Nat):Int):=by
  rw [IntWalk.i64_in _ (by omega)];omega
 have hM:(n-1).toNat / 32+1<=31250001:=by omega
 generalize hm:(n-1).toNat / 32=m at q2 q3 hM ⊢
 generalize m+1=M at q3 hM ⊢
 have D1:decide ((536870911:Int)<(M:Int))=false:=aB (by omega)
 have hmk:=cM LWd (P:=Tryz.prog) 0 67 72 (.int .u32 0) 4 Tryz.underlying67 AcA rfl .i64 .i64 M (by omega) (by omega)
 have HB:=hid ((AuN w).alloc (ArT _) (.cells (LWd.all (List.replicate M 0)).toArray 72))
 have HO:=hid (yN w (List.replicate M 0) (by rw[List.length_replicate];omega))
 rw [List.length_replicate] at HO
 clear hn E hm h0
 go_enter Tryz.func87,Tryz.ntmps87
 go_wp2
 go_ret
 exact ⟨_,rfl,by rw[List.length_replicate];exact HO.out,HB.out⟩
 --]
theorem Bs.put_at {L:List Nat} {k:Nat} (h:k / 32<L.length):Bs.put L (k:Int)=L.set (k / 32) (L.getD (k / 32) 0 ||| 2 ^ (k % 32)):=by
 unfold Bs.put
 rw [AsB (Bs.fits_iff.2 ⟨ArV k,by rw[AuA];exact h⟩),AuA]
theorem AmA (n:Int) (A:Option Addr) (c:Nat) (l:List Int) (w:World) (h0:-9223372036854775808<=n/\n<=1000000) (h:aF.Row w A l) (hl:l.length<=1000000) (hx:∀ x∈l,-9223372036854775808<=x/\x<=9223372036854775807) :
 Calls Tryz.prog 49 #[.int .i64 n,.slice A l.length c] w (SetOwn (Bs.ofL n l) w):=by
 --[
 have CN:=hid (AhM n w (by omega))
 have HR:=hid h
 have HX:=hid hx
 have HLN:=hid (Bs.new_len n)
 clear h hx
 go_enter Tryz.func49,Tryz.ntmps49
 go_wp2_with fail
 refine CN.out.mono ?_;rintro e w1 ⟨v,rfl,ho,hb⟩
 have HO:=hid ho
 have HB:=hid hb
 clear hb ho CN
 go_wp2_with fail
 go_loopw [7,12] (λ_ v2 w'=>∃ k:Nat,k<=l.length/\v2=.int .i64 k/\w'.ownsRow w.heap.size 72 LWd.m v (Bs.ofL n (l.take k)).length (LWd.all (Bs.ofL n (l.take k)))/\Below w.heap.size w w') (λ_ v2 _=>l.length-(intOf v2).toNat)
 case atStart=>exact ⟨0,AsF _,rfl,HO.out,HB.out⟩
 case round =>
  obtain ⟨k,hk,rfl,ho,hb⟩:=hrel
  have HB1:=hid hb
  have HO1:=hid ho
  by_cases hlt:k<l.length
  ·have hy:=ArP hlt
   obtain ⟨hy1,hy2⟩:=HX.out _ (List.getElem_mem hlt)
   obtain ⟨b1,o1,rfl,g1,on⟩:=(HR.out.below rfl hb).at hlt
   have HT:=hid (Bs.ofL_take (n:=n) hy)
   generalize l[k]=x at hy hy1 hy2 on HT
   have c0:=eU on
   rw [show k*aF.m=k from Nat.mul_one k] at c0
   have d1:decide ((k:Int)<(l.length:Int))=true:=aC (by omega)
   have i0:(0:Int)<=(k:Int):=ArV k
   have i1:(k:Int)<(l.length:Int):=by omega
   have hW:=Bs.W32.ofL n (l.take k)
   have hML:=Bs.ofL_len n (l.take k)
   have hM1:(Bs.ofL n (l.take k)).length<=1000000:=by
    have e:=HLN.out
    rw [hML,e]
    split <;> omega
   generalize Bs.ofL n (l.take k)=M at ho HO1 HT hW hML hM1
   clear hy on hb
   by_cases hxn:x<n
   ·have D2:decide (x<n)=true:=aC hxn
    rw [AsB hxn] at HT
    by_cases hf:Bs.fits M x=true
    ·obtain ⟨hn,hq⟩:=Bs.fits_iff.1 hf
     obtain ⟨j,rfl⟩:∃ j:Nat,x=(j:Int):=⟨x.toNat,by omega⟩
     rw [AuA] at hq
     rcases sE ho with ⟨-,rfl⟩|⟨g,cap,rfl,hg,hg2⟩
     ·exact absurd hq (by simp)
     obtain ⟨hc,hfz⟩:=AlY ho hq
     have hv:=hW.at (j / 32)
     have CF:=hid (λW=>pM (some ⟨g,0,none⟩) cap M (j:Int) W (by omega) (by omega))
     rw [hf] at CF
     have CB:=hid (λW=>AhL j W)
     rw [Bs.put_at hq] at HT
     have HG:=hid hg
     have q:IntKind.i64.wrap ((j:Int).tdiv 32)=((j / 32:Nat):Int):=by
      rw [Int.tdiv_eq_ediv_of_nonneg hn,IntWalk.i64_in _ (by omega)];omega
     have q2:(j:Int) / 32=((j / 32:Nat):Int):=by omega
     have q3:IntKind.i64.wrap ((j:Int) / 32)=((j / 32:Nat):Int):=by rw[IntWalk.i64_in _ (by omega)];omega
     have q4:IntKind.i64.wrap ((j / 32:Nat):Int)=((j / 32:Nat):Int):=IntWalk.i64_in _ (by omega)
     have e0:(0:Int)<=((j / 32:Nat):Int):=ArV _
     have e1:((j / 32:Nat):Int)<(M.length:Int):=by omega
     have hp2:(2:Nat) ^ (j % 32)<2 ^ 32:=Nat.pow_lt_pow_right (by decide) (Nat.mod_lt _ (by decide))
     have e:=u32_or_nat (M.getD (j / 32) 0) (2 ^ (j % 32)) hv hp2
     generalize hyy:M.getD (j / 32) 0 ||| 2 ^ (j % 32)=y at e HT
     generalize M.getD (j / 32) 0=u at hc hv e hyy
     have HW:=hid (λ(W:World) (hW:W.heap=wr.heap)=>(AeP (w:=W) (by unfold World.ownsRow at ho ⊢;rw[hW];exact ho) (j / 32) y))
     generalize j / 32=i at q q2 q3 q4 e0 e1 hc hfz HT HW
     generalize ((2 ^ (j % 32):Nat):Int)=z at CB e
     clear hf hq hn ho hyy hp2 hv hxn hW hML hM1 hy1 hy2
     go_upto_region 5 with fail
     go_wp2_with fail
     refine (CF.out _).mono ?_;rintro e2 z2 ⟨rfl,rfl⟩
     go_upto_region 6 with fail
     go_region_with (first
      | (go_at_call 89;(with_reducible refine (CB.out _).mono ?_);rintro e2 z3 ⟨rfl,rfl⟩))
     all_goals go_wp2_with fail
     all_goals go_roundw
     all_goals first
      | exact ⟨k+1,by omega,by go_num,by rw[HT.out];exact (HW.out _ rfl).drew,(HB1.out.setCell (p:=⟨g,i,none⟩) HG.out _).drew⟩
      | (simp [intOf];omega)
    have hf2:Bs.fits M x=false:=by simpa using hf
    have HP:=hid (show Bs.put M x=M from AsA hf)
    rw [HP.out] at HT
    obtain ⟨-,B,d,rfl,hd,hR⟩:=Lies.Row.of_own (E:=LWd) ho
    have CF:=hid (λW=>pM B d M x W (by omega) (by omega))
    rw [hf2] at CF
    clear hf hf2 ho hd hR hxn hW hML hM1 hy1 hy2 HP
    go_upto_region 5 with fail
    go_wp2_with fail
    refine (CF.out _).mono ?_;rintro e2 z2 ⟨rfl,rfl⟩
    go_wp2
    go_roundw
    case rel=>exact ⟨k+1,by omega,by go_num,by rw[HT.out];exact HO1.out,HB1.out⟩
    case measure=>simp [intOf];omega
   have D2:decide (x<n)=false:=aB hxn
   rw [AsA hxn] at HT
   clear hxn ho hW hML hM1 hy1 hy2
   go_wp2
   go_roundw
   case rel=>exact ⟨k+1,by omega,by go_num,by rw[HT.out];exact HO1.out,HB1.out⟩
   case measure=>simp [intOf];omega
  obtain rfl:k=l.length:=by omega
  have d1:decide ((l.length:Int)<(l.length:Int))=false:=aB (by omega)
  rw [List.take_length] at HO1
  clear hb ho
  go_wp2
  go_ret
  exact ⟨_,rfl,HO1.out,HB1.out⟩
 --]
theorem AmB (w:World) (y:Int) {g:Nat} (hg:w.heap.size=g):aF.Row (w.alloc (.cells #[.int .i64 y] 3)) (some ⟨g,0,none⟩) [y]:=hg ▸ Lies.Row.fresh (E:=aF) w [y] 3
def NumsYes (L:List Int) (w:World) (e:Ending) (w':World):Prop:=∃ B d,e=.returned (.slice B L.length d)/\aF.Row w' B L/\L.length<=d/\Below w.heap.size w w'
theorem NumsYes.of_own {L:List Int} {w w':World} {base n:Nat} {v:Value} (h:w'.ownsRow base 3 aF.m v n (aF.all L)) (hn:n=L.length) (hb:Below w.heap.size w w'):NumsYes L w (.returned v) w':=by
 subst hn
 obtain ⟨-,B,d,rfl,hc,hR⟩:=Lies.Row.of_own (E:=aF) h
 exact ⟨B,d,rfl,hR,hc,hb⟩
theorem AmC:(Tryz.prog.info? 3).map (λi=>(i.zero,i.size,i.bytes))=some (some (.int .i64 0),1,8):=by kernel_rfl
theorem AhN (n:Int) (w:World) (h0:-9223372036854775808<=n/\n<=1000000000):Calls Tryz.prog 38 #[.int .i64 n] w (SetOwn (Bs.new n) w):=by
 --[
 by_cases hn:n<1
 ·have D0:decide (n<=0)=true:=aC (by omega)
  have E:Bs.new n=[]:=AsB hn
  rw [E]
  clear hn
  go_enter Tryz.func38,Tryz.ntmps38
  go_wp2
  go_ret
  exact ⟨_,rfl,⟨rfl,.inl ⟨rfl,rfl⟩⟩,Below.refl _ _⟩
 have D0:decide (n<=0)=false:=aB (by omega)
 have E:Bs.new n=List.replicate ((n-1).toNat / 32+1) 0:=AsA hn
 rw [E]
 have q1:IntKind.i64.wrap (n-1)=n-1:=IntWalk.i64_in _ (by omega)
 have q2:IntKind.i64.wrap ((n-1).tdiv 32)=(((n-1).toNat / 32:Nat):Int):=by
  rw [Int.tdiv_eq_ediv_of_nonneg (by omega),IntWalk.i64_in _ (by omega)];omega
 have q3:IntKind.i64.wrap ((((n-1).toNat / 32:Nat):Int)+1)=(((n-1).toNat / 32+1:Nat):Int):=by
  rw [IntWalk.i64_in _ (by omega)];omega
 have hM:(n-1).toNat / 32+1<=31250001:=by omega
 generalize hm:(n-1).toNat / 32=m at q2 q3 hM ⊢
 generalize m+1=M at q3 hM ⊢
 have hmk:=cM LWd (P:=Tryz.prog) 0 67 72 (.int .u32 0) 4 Tryz.underlying67 AcA rfl .i64 .i64 M (by omega) (by omega)
 have HB:=hid ((AuN w).alloc (ArT _) (.cells (LWd.all (List.replicate M 0)).toArray 72))
 have HO:=hid (yN w (List.replicate M 0) (by rw[List.length_replicate];omega))
 rw [List.length_replicate] at HO
 clear hn E hm h0
 go_enter Tryz.func38,Tryz.ntmps38
 go_wp2
 go_ret
 exact ⟨_,rfl,by rw[List.length_replicate];exact HO.out,HB.out⟩
 --]
theorem AcD (A:Option Addr) (c:Nat) (L:List Nat) (n:Int) (w:World) (h0:-9223372036854775808<=n/\n<=9223372036854775807) (h:LWd.Row w A L) (hw:Bs.W32 L) (hl:L.length<=1000000) :
 Calls Tryz.prog 40 #[.slice A L.length c,.int .i64 n] w (SetOwn (Bs.put L n) w):=by
 --[
 have HB:=hid ((AuN w).alloc (ArT _) (.cells #[] 72))
 have HR:=hid (h.below rfl HB.out)
 have HO:=hid (yJ w rfl (ArT _))
 clear h
 obtain ⟨i0,hi,hz0,hz1,hz2⟩:=info_parts AcA
 go_enter Tryz.func40,Tryz.ntmps40
 go_upto_region 1 with fail
 go_cut [5] from 6 to 32 (λv5 w'=>w'.ownsRow w.heap.size 72 LWd.m v5 L.length (LWd.all L)/\Below w.heap.size w w')
 case first =>
  go_wp2_with (at_builtin;refine bA LWd rfl (.tmp 6) (.tmp 7) 67 rfl w.heap.size 72 i0 _ 4 Tryz.underlying67 hi hz0 hz1 hz2 rfl (.slice (some ⟨w.heap.size,0,none⟩) 0 0) 0 [] rfl HO.out A L.length c L rfl rfl HR.out (by omega) (by omega) (by simp) ?_;intro v1 w1 hown hg)
  have HB1:=hid (Below.grown HB.out hg (by simp) (λk hk=>by cases hk;exact ArT _))
  rw [Nat.zero_add,List.nil_append] at hown
  go_meet
  exact ⟨hown,HB1.out⟩
 case rest =>
  obtain ⟨ho,hb⟩:=hcut
  have HO1:=hid ho
  have HB1:=hid hb
  clear hb hi hz0 hz1 hz2
  by_cases hn:0<=n
  case neg =>
   have d0:decide ((0:Int)<=n)=false:=aB hn
   have HP:=hid (show Bs.put L n=L from AsA (by unfold Bs.fits;rw[d0];exact Bool.false_ne_true))
   clear hn ho
   go_wp2
   go_ret
   exact ⟨_,rfl,by rw[HP.out];exact HO1.out,HB1.out⟩
  case pos =>
   obtain ⟨k,rfl⟩:∃ k:Nat,n=(k:Int):=⟨n.toNat,by omega⟩
   have d0:decide ((0:Int)<=(k:Int))=true:=aC hn
   have q:IntKind.i64.wrap ((k:Int).tdiv 32)=((k / 32:Nat):Int):=by
    rw [Int.tdiv_eq_ediv_of_nonneg hn,IntWalk.i64_in _ (by omega)];omega
   have q2:(k:Int) / 32=((k / 32:Nat):Int):=by omega
   have q3:IntKind.i64.wrap ((k:Int) / 32)=((k / 32:Nat):Int):=by rw[IntWalk.i64_in _ (by omega)];omega
   have q4:IntKind.i64.wrap ((k / 32:Nat):Int)=((k / 32:Nat):Int):=IntWalk.i64_in _ (by omega)
   have e0:(0:Int)<=((k / 32:Nat):Int):=ArV _
   by_cases hk:k / 32<L.length
   ·rcases sE ho with ⟨-,rfl⟩|⟨g,cap,rfl,hg,hg2⟩
    ·exact absurd hk (by simp)
    obtain ⟨hc,hfz⟩:=AlY ho hk
    have hv:=hw.at (k / 32)
    have HP:=hid (Bs.put_at hk)
    have HG:=hid hg
    have D1:decide (((k / 32:Nat):Int)<(L.length:Int))=true:=aC (by omega)
    have e1:((k / 32:Nat):Int)<(L.length:Int):=by omega
    have r1:(k:Int).tmod 32=((k % 32:Nat):Int):=by rw[Int.tmod_eq_emod_of_nonneg hn];omega
    have r2:(k:Int) % 32=((k % 32:Nat):Int):=by omega
    have r3:IntKind.u64.wrap ((k % 32:Nat):Int)=((k % 32:Nat):Int):=by rw[IntKind.wrap_u64];omega
    have r0:(0:Int)<=((k % 32:Nat):Int):=ArV _
    have rq:min (k % 32) 32=k % 32:=by omega
    have hp2:(2:Nat) ^ (k % 32)<2 ^ 32:=Nat.pow_lt_pow_right (by decide) (Nat.mod_lt _ (by decide))
    have e:=u32_or_nat (L.getD (k / 32) 0) (2 ^ (k % 32)) hv hp2
    rw [<-Bs.AeQ (k % 32) (Nat.mod_lt _ (by decide))] at e
    generalize hy:L.getD (k / 32) 0 ||| 2 ^ (k % 32)=y at e HP
    generalize L.getD (k / 32) 0=x at hc hv e hy
    have HW:=hid (AeP ho (k / 32) y)
    generalize k / 32=i at q q2 q3 q4 D1 e0 e1 hc hfz HP HW hk
    generalize k % 32=j at r1 r2 r3 r0 rq e hy hp2
    clear hy hp2 ho hv hn hw
    go_wp2
    go_ret
    exact ⟨_,rfl,by rw[HP.out];exact HW.out,HB1.out.setCell (p:=⟨g,i,none⟩) HG.out _⟩
   have D1:decide (((k / 32:Nat):Int)<(L.length:Int))=false:=aB (by omega)
   have HP:=hid (show Bs.put L (k:Int)=L from AsA (λh=>hk (by have:=(Bs.fits_iff.1 h).2;rwa [AuA] at this)))
   obtain ⟨-,B,d,rfl,hd,hR⟩:=Lies.Row.of_own (E:=LWd) ho
   generalize k / 32=i at q q2 q3 q4 D1 e0 hk
   clear ho hd hR hn hw
   go_wp2
   go_ret
   exact ⟨_,rfl,by rw[HP.out];exact HO1.out,HB1.out⟩
 --]
theorem AcE (A:Option Addr) (c n:Nat) (L:List Nat) (A':Option Addr) (c' n':Nat) (M:List Nat) (w:World) (hn:L.length=n) (h:LWd.Row w A L) (hl:n<=1000000) (hn':M.length=n') (h':LWd.Row w A' M) :
 Calls Tryz.prog 37 #[.slice A n c,.slice A' n' c'] w (OneIs (.bool (decide (L=M))) w):=by
 --[
 subst hn hn'
 have B0:=hid (AuN w)
 have HR:=hid h
 have HR':=hid h'
 clear h h'
 by_cases hn:L.length=M.length
 ·have E : ((L.length:Int) != (M.length:Int))=false:=by rw[bne_eq_false_iff_eq];omega
  have HN:=hid hn
  go_enter Tryz.func37,Tryz.ntmps37
  go_wp2_with fail
  go_loopw [5] (λv w'=>∃ j:Nat,j<=L.length/\v=.int .i64 j/\L.take j=M.take j/\Below w.heap.size w w') (λv _=>L.length-(intOf v).toNat)
  case atStart=>exact ⟨0,AsF _,rfl,rfl,B0.out⟩
  case round =>
   obtain ⟨j,hj,rfl,hp,hb⟩:=hrel
   by_cases hlt:j<L.length
   ·have hy:=ArP hlt
    have hy':=ArP (show j<M.length by omega)
    have HB:=hid hb
    obtain ⟨b,o,rfl,hbb,on⟩:=(HR.out.below rfl hb).at hlt
    obtain ⟨b',o',rfl,hbb',on'⟩:=(HR'.out.below rfl hb).at (show j<M.length by omega)
    generalize L[j]=x at hy on
    generalize M[j]=y at hy' on'
    have c0:=yI on
    have c0':=yI on'
    rw [show j*LWd.m=j from Nat.mul_one j] at c0 c0'
    have d1:decide ((j:Int)<(L.length:Int))=true:=aC (by omega)
    have i0:(0:Int)<=(j:Int):=ArV j
    have i1:(j:Int)<(L.length:Int):=by omega
    have i1':(j:Int)<(M.length:Int):=by omega
    have HY:=hid (AsX hy hy')
    have HP:=hid hp
    clear hb hy hy' on on' hp E hn
    by_cases h1:x=y
    ·have E1:((x:Int) != (y:Int))=false:=by rw[bne_eq_false_iff_eq,h1]
     have HP2:=hid (show L.take (j+1)=M.take (j+1) from by
      rw [List.take_add_one,List.take_add_one,HY.out.1,HY.out.2,HP.out,h1])
     clear h1
     go_upto_region 6 with fail
     go_quiet (fail)
     go_wp2
     go_roundw
     case rel=>exact ⟨j+1,by omega,by go_num,HP2.out,aI HB.out _⟩
     case measure=>simp [intOf];omega
    have E1:((x:Int) != (y:Int))=true:=by rw[AuG];omega
    have HF:=hid (show decide (L=M)=false from decide_eq_false λe=>by
     have h3:=HY.out.1
     rw [e,HY.out.2] at h3
     cases h3
     exact h1 rfl)
    clear h1
    go_upto_region 6 with fail
    go_quiet (fail)
    go_wp2
    go_ret
    exact ⟨by rw[HF.out] <;> rfl,aI HB.out _⟩
   obtain rfl:j=L.length:=by omega
   have d1:decide ((L.length:Int)<(L.length:Int))=false:=aB (by omega)
   have HB:=hid hb
   have HP:=hid (show decide (L=M)=true from decide_eq_true (by
    rw [List.take_length,hn,List.take_length] at hp
    exact hp))
   clear hb hp hn E
   go_wp2
   go_ret
   exact ⟨by rw[HP.out] <;> rfl,HB.out⟩
 ·have E:((L.length:Int) != (M.length:Int))=true:=by rw[AuG];omega
  have P:=hid (show decide (L=M)=false from decide_eq_false λh=>hn (by rw[h]))
  clear hn
  go_enter Tryz.func37,Tryz.ntmps37
  go_wp2
  go_ret
  exact ⟨by rw[P.out] <;> rfl,B0.out⟩
 --]
end Go.Proofs.YtncphjodaklleaaGreat
