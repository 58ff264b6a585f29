/-
 Texts of this claim, merged: TbMem, TbRefB, TbRefC, TbRefD.
-/
import Derived.Test.YtncphjodaklleaaGreatMg05
import Derived.Test.YtncphjodaklleaaGreatMg06
import Derived.Test.YtncphjodaklleaaGreatMg12
import Derived.Test.YtncphjodaklleaaGreatMg13
import Derived.Test.YtncphjodaklleaaGreatMg15
import Derived.Test.YtncphjodaklleaaGreatMg16
import Derived.Test.YtncphjodaklleaaGreatMg17
import Derived.Test.YtncphjodaklleaaGreatMg19
import Derived.Test.YtncphjodaklleaaGreatMg20
import Derived.Test.YtncphjodaklleaaGreatMg21
import Derived.Test.YtncphjodaklleaaGreatMg22
import Derived.BigQuiet
import Derived.Deep.CutRange
import Derived.Deep.RegionHeld3
import Derived.Deep.RegionWith
import Derived.Lib.IndexLaws
set_option maxHeartbeats 16000000
set_option maxRecDepth 100000
namespace Go.Proofs.YtncphjodaklleaaGreat
open Lib (hid)
open Go.RowKit
def LTx:Lies (List UInt8):=⟨1,by decide,fun x=>[.string (txt x)],fun _=>rfl,fun y u hu=>by
 simp at hu
 subst hu;rfl⟩
theorem tx_on {w:World} {b o:Nat} {x:List UInt8} (h:LTx.On w b o x):w.cell? ⟨b,o,none⟩ = some (.string (txt x)):=h 0 _ rfl
theorem infoTx:(Tryz.prog.info? 9).map (fun i=>(i.zero,i.size,i.bytes))=some (some (.string ByteArray.empty),1,16):=by kernel_rfl
def LBo:Lies Bool:=⟨1,by decide,fun x=>[.bool x],fun _=>rfl,fun y u hu=>by
 simp at hu
 subst hu;rfl⟩
theorem bo_on {w:World} {b o:Nat} {x:Bool} (h:LBo.On w b o x):w.cell? ⟨b,o,none⟩ = some (.bool x):=h 0 _ rfl
theorem infoBo:(Tryz.prog.info? 4).map (fun i=>(i.zero,i.size,i.bytes))=some (some (.bool false),1,1):=by kernel_rfl
structure TableM where
 A0:Option Addr
 c0:Nat
 A1:Option Addr
 c1:Nat
 A2:Option Addr
 c2:Nat
 A4:Option Addr
 c4:Nat
 A5:Option Addr
 c5:Nat
 t:Tb.Table
abbrev tbV (m:TableM):Value:=.agg #[.slice m.A0 m.t.names.length m.c0,.slice m.A1 m.t.points.length m.c1,.slice m.A2 m.t.sigs.length m.c2,.int .i64 m.t.settle,.slice m.A4 m.t.routes.length m.c4,.slice m.A5 m.t.bars.length m.c5]
abbrev tbO (m:TableM):Obj:=.cells #[.slice m.A0 m.t.names.length m.c0,.slice m.A1 m.t.points.length m.c1,.slice m.A2 m.t.sigs.length m.c2,.int .i64 m.t.settle,.slice m.A4 m.t.routes.length m.c4,.slice m.A5 m.t.bars.length m.c5] 34
structure TableIn (w:World) (m:TableM):Prop where
 p0:LTx.Row w m.A0 m.t.names
 p1:LBo.Row w m.A1 m.t.points
 p2:LTx.Row w m.A2 m.t.sigs
 p4:RoutesIn w m.A4 m.t.routes
 p5:SetsIn w m.A5 m.t.bars
theorem TableIn.below {w w':World} {m:TableM} (h:TableIn w m) (hb:Below w.heap.size w w'):TableIn w' m :=
 ⟨h.p0.below rfl hb,h.p1.below rfl hb,h.p2.below rfl hb,h.p4.below hb,h.p5.below hb⟩
def TableYes (x:Tb.Table × Int) (w:World) (e:Ending) (w':World):Prop:=∃ m:TableM,m.t=x.1∧e=.returned (.tuple #[tbV m,.int .i64 x.2])∧TableIn w' m∧Below w.heap.size w w'
theorem Lies.Row.two {α:Type} {E:Lies α} {w:World} {A:Option Addr} {L:List α} (h:E.Row w A L) {i k:Nat} {x y:α} (hx:L[i]? = some x) (hy:L[k]? = some y):∃ b o,A=some ⟨b,o,none⟩∧b<w.heap.size∧E.On w b (o+i * E.m) x∧E.On w b (o+k * E.m) y:=by
 obtain ⟨h1,rfl⟩:=List.getElem?_eq_some_iff.1 hx
 obtain ⟨h2,rfl⟩:=List.getElem?_eq_some_iff.1 hy
 obtain ⟨b,o,e1,hb,on1⟩:=h.at h1
 obtain ⟨b',o',e2,-,on2⟩:=h.at h2
 rw [e1] at e2
 cases e2
 exact ⟨b,o,e1,hb,on1,on2⟩
theorem tb_row {w:World} {g:Nat} {m:TableM} (h:w.heap[g]? = some (tbO m)):(w.cell? ⟨g,0,none⟩ = some (.slice m.A0 m.t.names.length m.c0)∧w.cell? ⟨g,1,none⟩ = some (.slice m.A1 m.t.points.length m.c1)∧w.cell? ⟨g,2,none⟩ = some (.slice m.A2 m.t.sigs.length m.c2)∧w.cell? ⟨g,3,none⟩ = some (.int .i64 m.t.settle)∧w.cell? ⟨g,4,none⟩ = some (.slice m.A4 m.t.routes.length m.c4)∧w.cell? ⟨g,5,none⟩ = some (.slice m.A5 m.t.bars.length m.c5))∧g<w.heap.size :=
 ⟨⟨cell_of_row w g 0 _ _ _ h,cell_of_row w g 1 _ _ _ h,cell_of_row w g 2 _ _ _ h,cell_of_row w g 3 _ _ _ h,cell_of_row w g 4 _ _ _ h,cell_of_row w g 5 _ _ _ h⟩,(Array.getElem?_eq_some_iff.1 h).1⟩
theorem bo_at {w:World} {A:Option Addr} {L:List Bool} (h:LBo.Row w A L) {k:Nat} (hk:k<L.length):∃ b o,A=some ⟨b,o,none⟩∧b<w.heap.size∧w.cell? ⟨b,o+k,none⟩ = some (.bool (L.getD k false)):=by
 obtain ⟨b,o,e,hb,on⟩:=h.at hk
 have c0:=bo_on on
 rw [show k * LBo.m=k from Nat.mul_one k] at c0
 exact ⟨b,o,e,hb,by rw[c0,Tb.getD_at (List.getElem?_eq_getElem hk)]⟩
theorem rtbRising_any (A:Option Addr) (c:Nat) (l:List Int) (n:Int) (w:World) (h:LNum.Row w A l) (hl:l.length≤1000000) :
 Calls Tryz.prog 60 #[.slice A l.length c,.int .i64 n] w (OneIs (.bool (Tb.risingOk l n)) w):=by
 --[
 have B0:=hid (Below.refl w.heap.size w)
 have HR:=hid h
 generalize hq:Tb.risingOk l n=q
 have HQ:=hid (show Tb.ups (Tb.riseOk l n) 0 l.length=q from hq)
 clear h hq
 go_enter Tryz.func60,Tryz.ntmps60
 go_wp2_with fail
 go_loopw [5] (fun v w'=>∃ j:Nat,j≤l.length∧v=.int .i64 j∧Tb.ups (Tb.riseOk l n) j l.length=q∧Below w.heap.size w w') (fun v _=>l.length - (intOf v).toNat)
 case atStart=>exact ⟨0,Nat.zero_le _,rfl,HQ.out,B0.out⟩
 case round =>
  clear HQ
  obtain ⟨j,hj,rfl,hp,hb⟩:=hrel
  have HB:=hid hb
  by_cases hlt:j<l.length
  ·have hx := List.getElem?_eq_getElem hlt
   have d1:decide ((j:Int)<(l.length:Int))=true:=dec_t (by omega)
   have j0:(0:Int)≤(j:Int):=Int.natCast_nonneg j
   have j1:(j:Int)<(l.length:Int):=by omega
   rw [Tb.ups_step _ hlt] at hp
   have HP:=hid hp
   have hgx:l.getD j 0=l[j]:=Tb.getD_at hx
   cases j with
   | zero =>
     have HK:=hid (show Tb.riseOk l n 0=(decide ((0:Int)≤l[0]) && decide (l[0]<n)) from by
      unfold Tb.riseOk
      rw [hgx,decide_eq_true (p:=0=0) rfl,Bool.true_or,Bool.and_true])
     obtain ⟨b,o,rfl,hbb,on⟩:=(HR.out.below rfl hb).at hlt
     generalize l[0]=x at hx on HK hgx
     have c0:=num_on on
     rw [show 0 * LNum.m=0 from rfl,Nat.add_zero] at c0
     have D2:decide ((0:Int)<((0:Nat):Int))=false:=by decide
     clear hb hx on hp hgx
     by_cases h0:x<0
     ·have D0:decide (x<0)=true:=dec_t h0
      have HF:=hid (show false=q from by have:=HP.out;rw[HK.out,dec_f (p:=0≤x) (by omega)] at this;exact this)
      clear h0 HP HK
      go_upto_region 4 with fail
      go_quiet (fail)
      go_wp2_with fail
      go_ret
      exact ⟨by rw[← HF.out] <;> rfl,below_drewN HB.out _⟩
     ·have D0:decide (x<0)=false:=dec_f h0
      by_cases h1:n≤x
      ·have D1:decide (n≤x)=true:=dec_t h1
       have HF:=hid (show false=q from by have:=HP.out;rw[HK.out,dec_t (p:=0≤x) (by omega),dec_f (p:=x<n) (by omega)] at this;exact this)
       clear h0 h1 HP HK
       go_upto_region 4 with fail
       go_quiet (fail)
       go_wp2_with fail
       go_ret
       exact ⟨by rw[← HF.out] <;> rfl,below_drewN HB.out _⟩
      ·have D1:decide (n≤x)=false:=dec_f h1
       have HT:=hid (show Tb.ups (Tb.riseOk l n) (0+1) l.length=q from by have:=HP.out;rw[HK.out,dec_t (p:=0≤x) (by omega),dec_t (p:=x<n) (by omega)] at this;exact this)
       clear h0 h1 HP HK
       go_upto_region 4 with fail
       go_quiet (fail)
       go_wp2_with fail
       go_roundw
       case rel=>exact ⟨0+1,by omega,by go_num,HT.out,below_drewN HB.out _⟩
       case measure=>simp [intOf];omega
   | succ i =>
     have hli:i<l.length:=by omega
     have hy:=List.getElem?_eq_getElem hli
     have HK:=hid (show Tb.riseOk l n (i+1)=(decide ((0:Int)≤l[i+1]) && decide (l[i+1]<n) && decide (l[i]<l[i+1])) from by
      unfold Tb.riseOk
      rw [hgx,decide_eq_false (p:=i+1=0) (by omega),Bool.false_or,Nat.add_sub_cancel,Tb.getD_at hy])
     obtain ⟨b,o,rfl,hbb,on,on'⟩:=(HR.out.below rfl hb).two hx hy
     generalize l[i+1]=x at hx on HK hgx
     generalize l[i]=y at hy on' HK
     have c0:=num_on on
     have c1:=num_on on'
     rw [show (i+1) * LNum.m=i+1 from Nat.mul_one _] at c0
     rw [show i * LNum.m=i from Nat.mul_one _] at c1
     have e1:((i+1:Nat):Int) - 1=(i:Int):=by omega
     have w1:IntKind.i64.wrap (((i+1:Nat):Int) - 1)=(i:Int):=by rw[IntWalk.i64_in _ (by omega)];omega
     have i0:(0:Int)≤(i:Int):=Int.natCast_nonneg i
     have i1:(i:Int)<(l.length:Int):=by omega
     have D2:decide ((0:Int)<((i+1:Nat):Int))=true:=dec_t (by omega)
     have D4:decide (0<i+1)=true:=dec_t (by omega)
     clear hb hx hy on on' hp hgx
     generalize hji:i+1=j at *
     by_cases h0:x<0
     ·have D0:decide (x<0)=true:=dec_t h0
      have HF:=hid (show false=q from by have:=HP.out;rw[HK.out,dec_f (p:=0≤x) (by omega)] at this;exact this)
      clear h0 HP HK
      go_upto_region 4 with fail
      go_quiet (fail)
      go_wp2_with fail
      go_ret
      exact ⟨by rw[← HF.out] <;> rfl,below_drewN HB.out _⟩
     ·have D0:decide (x<0)=false:=dec_f h0
      by_cases h1:n≤x
      ·have D1:decide (n≤x)=true:=dec_t h1
       have HF:=hid (show false=q from by have:=HP.out;rw[HK.out,dec_t (p:=0≤x) (by omega),dec_f (p:=x<n) (by omega)] at this;exact this)
       clear h0 h1 HP HK
       go_upto_region 4 with fail
       go_quiet (fail)
       go_wp2_with fail
       go_ret
       exact ⟨by rw[← HF.out] <;> rfl,below_drewN HB.out _⟩
      ·have D1:decide (n≤x)=false:=dec_f h1
       by_cases h2:x≤y
       ·have D3:decide (x≤y)=true:=dec_t h2
        have HF:=hid (show false=q from by have:=HP.out;rw[HK.out,dec_t (p:=0≤x) (by omega),dec_t (p:=x<n) (by omega),dec_f (p:=y<x) (by omega)] at this;exact this)
        clear h0 h1 h2 HP HK
        go_upto_region 4 with fail
        go_quiet (fail)
        go_wp2_with fail
        go_ret
        exact ⟨by rw[← HF.out] <;> rfl,below_drewN HB.out _⟩
       ·have D3:decide (x≤y)=false:=dec_f h2
        have HT:=hid (show Tb.ups (Tb.riseOk l n) (j+1) l.length=q from by have:=HP.out;rw[HK.out,dec_t (p:=0≤x) (by omega),dec_t (p:=x<n) (by omega),dec_t (p:=y<x) (by omega)] at this;exact this)
        clear h0 h1 h2 HP HK
        go_upto_region 4 with fail
        go_quiet (fail)
        go_wp2_with fail
        go_roundw
        case rel=>exact ⟨j+1,by omega,by go_num,HT.out,below_drewN HB.out _⟩
        case measure=>simp [intOf];omega
  ·obtain rfl:j=l.length:=by omega
   have d1:decide ((l.length:Int)<(l.length:Int))=false:=dec_f (by omega)
   rw [Tb.ups_end] at hp
   have HP:=hid hp
   clear hp hb
   go_wp2_with fail
   go_ret
   exact ⟨by rw[← HP.out] <;> rfl,HB.out⟩
 --]
theorem rtbNames_any (A:Option Addr) (c:Nat) (l:List (List UInt8)) (w:World) (h:LTx.Row w A l) (hl:l.length≤1000000) (hn:∀ x∈l,x.length≤1000000) :
 Calls Tryz.prog 30 #[.slice A l.length c] w (OneIs (.bool (Tb.namesOk l)) w):=by
 --[
 have B0:=hid (Below.refl w.heap.size w)
 have HR:=hid h
 have HNL:=hid hn
 generalize hq:Tb.namesOk l=q
 have HQ:=hid (show Tb.ups (Tb.nameOk l) 0 l.length=q from hq)
 clear h hq hn
 go_enter Tryz.func30,Tryz.ntmps30
 go_wp2_with fail
 go_loopw [3] (fun v w'=>∃ j:Nat,j≤l.length∧v=.int .i64 j∧Tb.ups (Tb.nameOk l) j l.length=q∧Below w.heap.size w w') (fun v _=>l.length - (intOf v).toNat)
 case atStart=>exact ⟨0,Nat.zero_le _,rfl,HQ.out,B0.out⟩
 case round =>
  clear HQ
  obtain ⟨j,hj,rfl,hp,hb⟩:=hrel
  have HB:=hid hb
  by_cases hlt:j<l.length
  ·have hx:=List.getElem?_eq_getElem hlt
   have hxl:=HNL.out _ (List.getElem_mem hlt)
   have d1:decide ((j:Int)<(l.length:Int))=true:=dec_t (by omega)
   have j0:(0:Int)≤(j:Int):=Int.natCast_nonneg j
   have j1:(j:Int)<(l.length:Int):=by omega
   rw [Tb.ups_step _ hlt] at hp
   have HP:=hid hp
   have hgx:l.getD j []=l[j]:=Tb.getD_at hx
   cases j with
   | zero =>
     have HK:=hid (show Tb.nameOk l 0=Fig.nameB l[0] from by
      unfold Tb.nameOk
      rw [hgx,decide_eq_true (p:=0=0) rfl,Bool.true_or,Bool.and_true])
     obtain ⟨b,o,rfl,hbb,on⟩:=(HR.out.below rfl hb).at hlt
     generalize l[0]=x at hx on HK hgx hxl
     have c0:=tx_on on
     rw [show 0 * LTx.m=0 from rfl,Nat.add_zero] at c0
     have D2:decide ((0:Int)<((0:Nat):Int))=false:=by decide
     have CN:=hid (fun W=>(rname_t x W hxl (Fig.nameB x) rfl).mono fun e w' h=>(⟨h.1,h.2.symm⟩:e=.returned (.bool (Fig.nameB x))∧w'=W))
     generalize Fig.nameB x=z at CN HK
     clear hb hx on hp hgx hxl
     cases z with
     | false =>
       have HF:=hid (show false=q from by have:=HP.out;rw[HK.out] at this;exact this)
       clear HP HK
       go_upto_region 4 with fail
       go_quiet ((go_at_call 56;with_reducible exact Calls.quiet_of_same (CN.out _)))
       go_wp2_with fail
       go_ret
       exact ⟨by rw[← HF.out] <;> rfl,below_drewN HB.out _⟩
     | true =>
       have HT:=hid (show Tb.ups (Tb.nameOk l) (0+1) l.length=q from by have:=HP.out;rw[HK.out] at this;exact this)
       clear HP HK
       go_upto_region 4 with fail
       go_quiet ((go_at_call 56;with_reducible exact Calls.quiet_of_same (CN.out _)))
       go_wp2_with fail
       go_roundw
       case rel=>exact ⟨0+1,by omega,by go_num,HT.out,below_drewN HB.out _⟩
       case measure=>simp [intOf];omega
   | succ i =>
     have hli:i<l.length:=by omega
     have hy:=List.getElem?_eq_getElem hli
     have HK:=hid (show Tb.nameOk l (i+1)=(Fig.nameB l[i+1] && decide (l[i]<l[i+1])) from by
      unfold Tb.nameOk
      rw [hgx,decide_eq_false (p:=i+1=0) (by omega),Bool.false_or,Nat.add_sub_cancel,Tb.getD_at hy])
     obtain ⟨b,o,rfl,hbb,on,on'⟩:=(HR.out.below rfl hb).two hx hy
     generalize l[i+1]=x at hx on HK hgx hxl
     generalize l[i]=y at hy on' HK
     have c0:=tx_on on
     have c1:=tx_on on'
     rw [show (i+1) * LTx.m=i+1 from Nat.mul_one _] at c0
     rw [show i * LTx.m=i from Nat.mul_one _] at c1
     have e1:((i+1:Nat):Int) - 1=(i:Int):=by omega
     have w1:IntKind.i64.wrap (((i+1:Nat):Int) - 1)=(i:Int):=by rw[IntWalk.i64_in _ (by omega)];omega
     have i0:(0:Int)≤(i:Int):=Int.natCast_nonneg i
     have i1:(i:Int)<(l.length:Int):=by omega
     have D2:decide ((0:Int)<((i+1:Nat):Int))=true:=dec_t (by omega)
     have D4:decide (0<i+1)=true:=dec_t (by omega)
     have CN:=hid (fun W=>(rname_t x W hxl (Fig.nameB x) rfl).mono fun e w' h=>(⟨h.1,h.2.symm⟩:e=.returned (.bool (Fig.nameB x))∧w'=W))
     generalize Fig.nameB x=z at CN HK
     clear hb hx hy on on' hp hgx hxl
     have hlx:=str_lt y x
     generalize hji:i+1=j at *
     cases z with
     | false =>
       have HF:=hid (show false=q from by have:=HP.out;rw[HK.out] at this;exact this)
       clear HP HK hlx
       go_upto_region 4 with fail
       go_quiet ((go_at_call 56;with_reducible exact Calls.quiet_of_same (CN.out _)))
       go_wp2_with fail
       go_ret
       exact ⟨by rw[← HF.out] <;> rfl,below_drewN HB.out _⟩
     | true =>
       by_cases h2:y<x
       ·rw [decide_eq_true h2] at hlx
        have HT:=hid (show Tb.ups (Tb.nameOk l) (j+1) l.length=q from by have:=HP.out;rw[HK.out,decide_eq_true h2] at this;exact this)
        clear h2 HP HK
        go_upto_region 4 with fail
        go_quiet ((go_at_call 56;with_reducible exact Calls.quiet_of_same (CN.out _)))
        go_wp2_with fail
        go_roundw
        case rel=>exact ⟨j+1,by omega,by go_num,HT.out,below_drewN HB.out _⟩
        case measure=>simp [intOf];omega
       ·rw [decide_eq_false h2] at hlx
        have HF:=hid (show false=q from by have:=HP.out;rw[HK.out,decide_eq_false h2] at this;exact this)
        clear h2 HP HK
        go_upto_region 4 with fail
        go_quiet ((go_at_call 56;with_reducible exact Calls.quiet_of_same (CN.out _)))
        go_wp2_with fail
        go_ret
        exact ⟨by rw[← HF.out] <;> rfl,below_drewN HB.out _⟩
  ·obtain rfl:j=l.length:=by omega
   have d1:decide ((l.length:Int)<(l.length:Int))=false:=dec_f (by omega)
   rw [Tb.ups_end] at hp
   have HP:=hid hp
   clear hp hb
   go_wp2_with fail
   go_ret
   exact ⟨by rw[← HP.out] <;> rfl,HB.out⟩
 --]
theorem rtbDemands_any (m:TableM) (A:Option Addr) (c:Nat) (d:List Dm.Dem) (w:World) (h1:LBo.Row w m.A1 m.t.points) (h:LDem.Row w A d) (hl:d.length≤1000000) (_hpl:m.t.points.length≤1000000) :
 Calls Tryz.prog 58 #[tbV m,.slice A d.length c] w (OneIs (.bool (Tb.demandsOk m.t.points d)) w):=by
 --[
 have XX:=(Below.refl w.heap.size w).alloc (Nat.le_refl _) (tbO m)
 have X:=hid XX
 have HR:=hid (h.below rfl XX)
 have HP1:=hid (h1.below rfl XX)
 have RP:=hid (heap_alloc_new w (tbO m))
 generalize hq:Tb.demandsOk m.t.points d=q
 have HQ:=hid (show Tb.ups (Tb.demOk m.t.points d) 0 d.length=q from hq)
 clear h h1 hq XX
 go_enter Tryz.func58,Tryz.ntmps58
 go_upto_region 1 with fail
 generalize w.alloc (tbO m)=w1 at X HR HP1 RP ⊢
 generalize hg:w.heap.size=g at RP ⊢
 have gl:=(tb_row RP.out).2
 have KB:=hid (fun W (hW:Below w1.heap.size w1 W)=>(tb_row ((hW.block _ gl).trans RP.out)).1.2.1)
 have B0:=hid (Below.refl w1.heap.size w1)
 clear gl hg
 go_wp2_with fail
 go_loopw [5] (fun v w'=>∃ j:Nat,j≤d.length∧v=.int .i64 j∧Tb.ups (Tb.demOk m.t.points d) j d.length=q∧Below w1.heap.size w1 w') (fun v _=>d.length - (intOf v).toNat)
 case atStart=>exact ⟨0,Nat.zero_le _,rfl,HQ.out,B0.out⟩
 case round =>
  clear HQ
  obtain ⟨j,hj,rfl,hp,hb⟩:=hrel
  have HB:=hid (X.out.trans (hb.mono X.out.size))
  have HB1:=hid hb
  by_cases hlt:j<d.length
  ·have hx := List.getElem?_eq_getElem hlt
   have d1:decide ((j:Int)<(d.length:Int))=true:=dec_t (by omega)
   have j0:(0:Int)≤(j:Int):=Int.natCast_nonneg j
   have j1:(j:Int)<(d.length:Int):=by omega
   have kb:=KB.out _ hb
   rw [Tb.ups_step _ hlt] at hp
   have HP:=hid hp
   obtain ⟨b,o,rfl,hbb,on⟩:=(HR.out.below rfl hb).at hlt
   have HK:=hid (show Tb.demOk m.t.points d j=(decide ((0:Int)≤d[j].pt) && decide (d[j].pt<(m.t.points.length:Int)) && m.t.points.getD d[j].pt.toNat false && ((d[j].pos == 1) || (d[j].pos == 2)) && (decide (j=0) || decide ((d.getD (j - 1) Tb.dem0).pt<d[j].pt))) from by
    unfold Tb.demOk
    rw [Tb.getD_at hx])
   generalize d[j]=x at hx on HK
   obtain ⟨xp,xq⟩:=x
   obtain ⟨c0,c1⟩:=dem_on on
   rw [show j * LDem.m=j * 2 from rfl] at c0 c1
   simp only at c0 c1 HK
   clear hp on
   by_cases h0:xp<0
   ·have D0:decide (xp<0)=true:=dec_t h0
    have HF:=hid (show false=q from by have:=HP.out;rw[HK.out,dec_f (p:=0≤xp) (by omega)] at this;exact this)
    clear h0 HP HK hb hx
    go_upto_region 4 with fail
    go_quiet (fail)
    go_wp2_with fail
    go_ret
    exact ⟨by rw[← HF.out] <;> rfl,below_drewN HB.out _⟩
   have D0:decide (xp<0)=false:=dec_f h0
   by_cases h1:(m.t.points.length:Int)≤xp
   ·have D1:decide ((m.t.points.length:Int)≤xp)=true:=dec_t h1
    have HF:=hid (show false=q from by have:=HP.out;rw[HK.out,dec_t (p:=0≤xp) (by omega),dec_f (p:=xp<(m.t.points.length:Int)) (by omega)] at this;exact this)
    clear h0 h1 HP HK hb hx
    go_upto_region 4 with fail
    go_quiet (fail)
    go_wp2_with fail
    go_ret
    exact ⟨by rw[← HF.out] <;> rfl,below_drewN HB.out _⟩
   have D1:decide ((m.t.points.length:Int)≤xp)=false:=dec_f h1
   obtain ⟨k,rfl⟩:∃ k:Nat,xp=(k:Int):=⟨xp.toNat,by omega⟩
   have hkp:k<m.t.points.length:=by omega
   have D1':decide (m.t.points.length≤k)=false:=dec_f (by omega)
   have k0:(0:Int)≤(k:Int):=Int.natCast_nonneg k
   have k1:(k:Int)<(m.t.points.length:Int):=by omega
   obtain ⟨bp,op,hA1,-,cp⟩:=bo_at (HP1.out.below rfl hb) hkp
   rw [hA1] at kb
   have HK1:=hid (show Tb.demOk m.t.points d j=(m.t.points.getD k false && ((xq == 1) || (xq == 2)) && (decide (j=0) || decide ((d.getD (j - 1) Tb.dem0).pt<(k:Int)))) from by
    rw [HK.out,dec_t (p:=0≤(k:Int)) (by omega),dec_t k1,Int.toNat_natCast];rfl)
   generalize m.t.points.getD k false=z at cp HK1
   clear h0 h1 HK hA1 hkp
   cases z with
   | false =>
     have HF:=hid (show false=q from by have:=HP.out;rw[HK1.out] at this;exact this)
     clear HP HK1 hb hx
     go_upto_region 4 with fail
     go_quiet (fail)
     go_wp2_with fail
     go_ret
     exact ⟨by rw[← HF.out] <;> rfl,below_drewN HB.out _⟩
   | true =>
     by_cases hq12:xq=1∨xq=2
     ·have HK2:=hid (show Tb.demOk m.t.points d j=(decide (j=0) || decide ((d.getD (j - 1) Tb.dem0).pt<(k:Int))) from by
       rw [HK1.out]
       rcases hq12 with rfl | rfl <;> rfl)
      have E:((xq != 1)=false)∨((xq != 1)=true∧(xq != 2)=false):=by
       rcases hq12 with rfl | rfl
       ·exact .inl rfl
       ·exact .inr ⟨rfl,rfl⟩
      clear hq12 HK1
      cases j with
      | zero =>
        have HT:=hid (show Tb.ups (Tb.demOk m.t.points d) (0+1) d.length=q from by have:=HP.out;rw[HK2.out,decide_eq_true (p:=0=0) rfl,Bool.true_or] at this;exact this)
        have D2:decide ((0:Int)<((0:Nat):Int))=false:=by decide
        rw [Nat.zero_mul,Nat.add_zero] at c0 c1
        clear HP HK2 hb hx
        rcases E with E | ⟨E,E'⟩
        ·go_upto_region 4 with fail
         go_quiet (fail)
         go_wp2_with fail
         go_roundw
         case rel=>exact ⟨0+1,by omega,by go_num,HT.out,below_drewN HB1.out _⟩
         case measure=>simp [intOf];omega
        ·go_upto_region 4 with fail
         go_quiet (fail)
         go_wp2_with fail
         go_roundw
         case rel=>exact ⟨0+1,by omega,by go_num,HT.out,below_drewN HB1.out _⟩
         case measure=>simp [intOf];omega
      | succ i =>
        have hli:i<d.length:=by omega
        have hy:=List.getElem?_eq_getElem hli
        have HK3:=hid (show Tb.demOk m.t.points d (i+1)=decide (d[i].pt<(k:Int)) from by
         rw [HK2.out,decide_eq_false (p:=i+1=0) (by omega),Bool.false_or,Nat.add_sub_cancel,Tb.getD_at hy])
        obtain ⟨b',o',e,-,on,on'⟩:=(HR.out.below rfl hb).two hx hy
        cases e
        generalize d[i]=y at hy on' HK3
        obtain ⟨yp,yq⟩:=y
        obtain ⟨e0,-⟩:=dem_on on'
        rw [show i * LDem.m=i * 2 from rfl] at e0
        simp only at e0 HK3
        have e1:((i+1:Nat):Int) - 1=(i:Int):=by omega
        have w1:IntKind.i64.wrap (((i+1:Nat):Int) - 1)=(i:Int):=by rw[IntWalk.i64_in _ (by omega)];omega
        have i0:(0:Int)≤(i:Int):=Int.natCast_nonneg i
        have i1:(i:Int)<(d.length:Int):=by omega
        have D2:decide ((0:Int)<((i+1:Nat):Int))=true:=dec_t (by omega)
        have D4:decide (0<i+1)=true:=dec_t (by omega)
        clear hb hx hy on on' HK2
        generalize hji:i+1=j at *
        by_cases h2:(k:Int)≤yp
        ·have D3:decide ((k:Int)≤yp)=true:=dec_t h2
         have HF:=hid (show false=q from by have:=HP.out;rw[HK3.out,dec_f (p:=yp<(k:Int)) (by omega)] at this;exact this)
         clear h2 HP HK3
         rcases E with E | ⟨E,E'⟩
         ·go_upto_region 4 with fail
          go_quiet (fail)
          go_wp2_with fail
          go_ret
          exact ⟨by rw[← HF.out] <;> rfl,below_drewN HB.out _⟩
         ·go_upto_region 4 with fail
          go_quiet (fail)
          go_wp2_with fail
          go_ret
          exact ⟨by rw[← HF.out] <;> rfl,below_drewN HB.out _⟩
        ·have D3:decide ((k:Int)≤yp)=false:=dec_f h2
         have HT:=hid (show Tb.ups (Tb.demOk m.t.points d) (j+1) d.length=q from by have:=HP.out;rw[HK3.out,dec_t (p:=yp<(k:Int)) (by omega)] at this;exact this)
         clear h2 HP HK3
         rcases E with E | ⟨E,E'⟩
         ·go_upto_region 4 with fail
          go_quiet (fail)
          go_wp2_with fail
          go_roundw
          case rel=>exact ⟨j+1,by omega,by go_num,HT.out,below_drewN HB1.out _⟩
          case measure=>simp [intOf];omega
         ·go_upto_region 4 with fail
          go_quiet (fail)
          go_wp2_with fail
          go_roundw
          case rel=>exact ⟨j+1,by omega,by go_num,HT.out,below_drewN HB1.out _⟩
          case measure=>simp [intOf];omega
     ·have E:(xq != 1)=true:=by rw[bne_iff_ne];omega
      have E':(xq != 2)=true:=by rw[bne_iff_ne];omega
      have HF:=hid (show false=q from by
       have:=HP.out
       rw [HK1.out,beq_eq_false_iff_ne.2 (show xq≠1 by omega),beq_eq_false_iff_ne.2 (show xq≠2 by omega)] at this
       exact this)
      clear hq12 HP HK1 hb hx
      go_upto_region 4 with fail
      go_quiet (fail)
      go_wp2_with fail
      go_ret
      exact ⟨by rw[← HF.out] <;> rfl,below_drewN HB.out _⟩
  ·obtain rfl:j=d.length:=by omega
   have d1:decide ((d.length:Int)<(d.length:Int))=false:=dec_f (by omega)
   rw [Tb.ups_end] at hp
   have HP:=hid hp
   clear hp hb
   go_wp2_with fail
   go_ret
   exact ⟨by rw[← HP.out] <;> rfl,HB.out⟩
 --]
theorem rtbAsks_any (m:TableM) (A:Option Addr) (c:Nat) (d:List Dm.Dem) (A':Option Addr) (c':Nat) (l:List Wk.Stp) (w:World) (h1:LBo.Row w m.A1 m.t.points) (h:LDem.Row w A d) (hl:d.length≤1000000) (h':LStp.Row w A' l) (hl':l.length≤1000000) (_hpl:m.t.points.length≤1000000) (hin:∀ x∈l,0≤x.s∧x.s<(m.t.points.length:Int)) :
 Calls Tryz.prog 59 #[tbV m,.slice A d.length c,.slice A' l.length c'] w (OneIs (.bool (Tb.asksOk m.t.points d l)) w):=by
 --[
 have XX:=(Below.refl w.heap.size w).alloc (Nat.le_refl _) (tbO m)
 have X:=hid XX
 have HD:=hid (h.below rfl XX)
 have HR:=hid (h'.below rfl XX)
 have HP1:=hid (h1.below rfl XX)
 have RP:=hid (heap_alloc_new w (tbO m))
 have HIN:=hid hin
 generalize hq:Tb.asksOk m.t.points d l=q
 have HQ:=hid (show (l.drop 0).all (Tb.askOk m.t.points d)=q from hq)
 clear h h1 h' hq XX hin
 go_enter Tryz.func59,Tryz.ntmps59
 go_upto_region 1 with fail
 generalize w.alloc (tbO m)=w1 at X HD HR HP1 RP ⊢
 generalize hg:w.heap.size=g at RP ⊢
 have gl:=(tb_row RP.out).2
 have KB:=hid (fun W (hW:Below w1.heap.size w1 W)=>(tb_row ((hW.block _ gl).trans RP.out)).1.2.1)
 have B0:=hid (Below.refl w1.heap.size w1)
 clear gl hg
 go_wp2_with fail
 go_loopw [7] (fun v w'=>∃ j:Nat,j≤l.length∧v=.int .i64 j∧(l.drop j).all (Tb.askOk m.t.points d)=q∧Below w1.heap.size w1 w') (fun v _=>l.length - (intOf v).toNat)
 case atStart=>exact ⟨0,Nat.zero_le _,rfl,HQ.out,B0.out⟩
 case round =>
  clear HQ
  obtain ⟨j,hj,rfl,hp,hb⟩:=hrel
  have HB:=hid (X.out.trans (hb.mono X.out.size))
  have HB1:=hid hb
  by_cases hlt:j<l.length
  ·have d1:decide ((j:Int)<(l.length:Int))=true:=dec_t (by omega)
   have j0:(0:Int)≤(j:Int):=Int.natCast_nonneg j
   have j1:(j:Int)<(l.length:Int):=by omega
   have kb:=KB.out _ hb
   obtain ⟨hx0,hx1⟩:=HIN.out _ (List.getElem_mem hlt)
   rw [List.drop_eq_getElem_cons hlt,List.all_cons] at hp
   obtain ⟨b,o,rfl,hbb,on⟩:=(HR.out.below rfl hb).at hlt
   generalize l[j]=x at hp on hx0 hx1
   obtain ⟨xs,xf,xt⟩:=x
   obtain ⟨c0,c1,c2⟩:=stp_on on
   rw [show j * LStp.m=j * 3 from rfl] at c0 c1 c2
   simp only at c0 c1 c2 hx0 hx1
   obtain ⟨k,rfl⟩:∃ k:Nat,xs=(k:Int):=⟨xs.toNat,by omega⟩
   have hkp:k<m.t.points.length:=by omega
   have k0:(0:Int)≤(k:Int):=Int.natCast_nonneg k
   have k1:(k:Int)<(m.t.points.length:Int):=by omega
   obtain ⟨bp,op,hA1,hbp,cp⟩:=bo_at (HP1.out.below rfl hb) hkp
   rw [hA1] at kb
   have HK:=hid (show Tb.askOk m.t.points d ⟨(k:Int),xf,xt⟩ = (!m.t.points.getD k false || (Dm.posOf d (k:Int) == max xf xt)) from by
    unfold Tb.askOk
    rw [Int.toNat_natCast])
   have HP:=hid hp
   have V0:=hid (Below.refl wr.heap.size wr)
   have KS:=hid (fun W (hW:Below wr.heap.size wr W)=>show W.cell? ⟨g,1,none⟩ = some (.slice (some ⟨bp,op,none⟩) m.t.points.length m.c1)∧W.cell? ⟨bp,op+k,none⟩ = some (.bool (m.t.points.getD k false))∧W.cell? ⟨b,o+j * 3,none⟩ = some (.int .i64 k)∧W.cell? ⟨b,o+j * 3+1,none⟩ = some (.int .i64 xf)∧W.cell? ⟨b,o+j * 3+2,none⟩ = some (.int .i64 xt) from
    ⟨by have:=KB.out W (hb.trans (hW.mono hb.size));rwa [hA1] at this,(hW.cell (p:=⟨bp,op+k,none⟩) hbp).trans cp,(hW.cell (p:=⟨b,o+j * 3,none⟩) hbb).trans c0,(hW.cell (p:=⟨b,o+j * 3+1,none⟩) hbb).trans c1,(hW.cell (p:=⟨b,o+j * 3+2,none⟩) hbb).trans c2⟩)
   have CP:=hid (fun W (hW:Below wr.heap.size wr W)=>rdPosition_any A c d (k:Int) W ((HD.out.below rfl hb).below rfl hW) hl)
   generalize m.t.points.getD k false=z at cp HK KS
   clear hp on hA1 hkp hx0 hx1
   cases z with
   | false =>
     have HT:=hid (show (l.drop (j+1)).all (Tb.askOk m.t.points d)=q from by have:=HP.out;rw[HK.out] at this;exact this)
     clear HP HK hb hbb hbp KS CP
     go_upto_region 4 with fail
     go_quiet (fail)
     go_wp2_with fail
     go_roundw
     case rel=>exact ⟨j+1,by omega,by go_num,HT.out,below_drewN HB1.out _⟩
     case measure=>simp [intOf];omega
   | true =>
     generalize Dm.posOf d (k:Int)=n at HK CP
     clear hb hbb hbp cp kb c0 c1 c2
     go_upto_region 4 with fail
     go_region_held3 (fun W=>W.cell? ⟨g,1,none⟩ = some (.slice (some ⟨bp,op,none⟩) m.t.points.length m.c1)∧W.cell? ⟨bp,op+k,none⟩ = some (.bool true)∧W.cell? ⟨b,o+j * 3,none⟩ = some (.int .i64 k)∧W.cell? ⟨b,o+j * 3+1,none⟩ = some (.int .i64 xf)∧W.cell? ⟨b,o+j * 3+2,none⟩ = some (.int .i64 xt))
      (first | with_reducible exact KS.out _ V0.out.drew | with_reducible exact KS.out _ h5 | (go_keep;done))
      (first | (go_at_call 102;(with_reducible refine (CP.out _ V0.out.drew).mono ?_);rintro e5 w5 ⟨rfl,hb5⟩;have h5:=V0.out.drew.trans (hb5.mono V0.out.drew.size)))
     all_goals
      have BX:=hid (HB.out.trans (h5.mono HB.out.size))
      have BX1:=hid (HB1.out.trans (h5.mono HB1.out.size))
      clear h5 KS CP
      by_cases hn:n=max xf xt
      ·have E:(n != max xf xt)=false:=by rw[bne_eq_false_iff_eq];exact hn
       have HT:=hid (show (l.drop (j+1)).all (Tb.askOk m.t.points d)=q from by have:=HP.out;rw[HK.out,beq_iff_eq.2 hn] at this;exact this)
       clear hn HP HK
       go_wp2_with fail
       go_roundw
       case rel=>exact ⟨j+1,by omega,by go_num,HT.out,BX1.out⟩
       case measure=>simp [intOf];omega
      ·have E:(n != max xf xt)=true:=by rw[bne_iff_ne];exact hn
       have HF:=hid (show false=q from by have:=HP.out;rw[HK.out,beq_eq_false_iff_ne.2 hn] at this;exact this)
       clear hn HP HK
       go_wp2_with fail
       go_ret
       exact ⟨by rw[← HF.out] <;> rfl,BX.out⟩
  ·obtain rfl:j=l.length:=by omega
   have d1:decide ((l.length:Int)<(l.length:Int))=false:=dec_f (by omega)
   rw [List.drop_length] at hp
   have HP:=hid (show true=q from hp)
   clear hp hb
   go_wp2_with fail
   go_ret
   exact ⟨by rw[← HP.out] <;> rfl,HB.out⟩
 --]
end Go.Proofs.YtncphjodaklleaaGreat
