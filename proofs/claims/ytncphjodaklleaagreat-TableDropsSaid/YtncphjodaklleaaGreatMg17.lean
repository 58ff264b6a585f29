/-
 Texts of this claim, merged: DmPr, DmPrB, DmPrC, DmProg, FlKit.
-/
import Derived.Test.YtncphjodaklleaaGreatMg02
import Derived.Test.YtncphjodaklleaaGreatMg03
import Derived.Test.YtncphjodaklleaaGreatMg07
import Derived.Test.YtncphjodaklleaaGreatMg12
import Derived.Test.YtncphjodaklleaaGreatMg13
import Derived.Test.YtncphjodaklleaaGreatMg16
import Derived.BigQuiet
import Derived.Deep.LoopGhost
import Derived.Deep.RegionHeld3
import Derived.Laws.Rows
import Derived.Lib.AppendZeros
import Derived.Shelf.Abstract
set_option maxHeartbeats 16000000
set_option maxRecDepth 100000
namespace Go.Proofs.YtncphjodaklleaaGreat
open Go.RowKit
theorem pdPosition_any (A:Option Addr) (c:Nat) (L:List Dm.Dem) (k:Int) (w:World) (h:LDem.Row w A L) (hl:L.length≤1000000) :
 Calls Tryz.prog 140 #[.slice A L.length c,.int .i64 k] w (OneIs (.int .i64 (Dm.posOf L k)) w):=by
 --[
 have B0:=Lib.hid (Below.refl w.heap.size w)
 have HR:=Lib.hid h
 generalize hq:Dm.posOf L k=q
 have HQ:=Lib.hid hq
 clear h hq
 go_enter Tryz.func140,Tryz.ntmps140
 go_wp2_with fail
 go_loopw [9] (fun v w'=>∃ j:Nat,j≤L.length∧v=.int .i64 j∧Dm.posOf (L.drop j) k=q∧Below w.heap.size w w') (fun v _=>L.length - (intOf v).toNat)
 case atStart=>exact ⟨0,Nat.zero_le _,rfl,by rw[List.drop_zero];exact HQ.out,B0.out⟩
 case round =>
  obtain ⟨j,hj,rfl,hp,hb⟩:=hrel
  have HB:=Lib.hid hb
  by_cases hlt:j<L.length
  ·have hy:=List.getElem?_eq_getElem hlt
   obtain ⟨b,o,rfl,hbb,on⟩:=(HR.out.below rfl hb).at hlt
   generalize L[j]=x at hy on
   obtain ⟨c0,c1⟩:=dem_on on
   rw [show j * LDem.m=j * 2 from rfl] at c0 c1
   rw [Dm.posOf_drop hy] at hp
   have d1:decide ((j:Int)<(L.length:Int))=true:=dec_t (by omega)
   have i0:(0:Int)≤(j:Int):=Int.natCast_nonneg j
   have i1:(j:Int)<(L.length:Int):=by omega
   have HP:=Lib.hid hp
   clear hb hy on hp
   obtain ⟨p0,q0⟩:=x
   simp only at c0 c1
   have RX:=Lib.hid (heap_alloc_new wr (.cells #[.int .i64 p0,.int .i64 q0] 125))
   have HX:=Lib.hid (HB.out.alloc HB.out.size (.cells #[.int .i64 p0,.int .i64 q0] 125))
   go_upto_region 4 with fail
   generalize wr.alloc (.cells #[.int .i64 p0,.int .i64 q0] 125)=w2 at RX HX ⊢
   generalize wr.heap.size=gx at RX ⊢
   clear c0 c1 hbb
   obtain ⟨t0,t1⟩:=cell_posn RX.out
   have gx2:=(Array.getElem?_eq_some_iff.1 RX.out).1
   by_cases hk:p0=k
   ·have E:(p0 == k)=true:=by rw[beq_iff_eq];exact hk
    have HP2:=Lib.hid (show q0=q from by have:=HP.out;rwa [if_pos hk] at this)
    clear hk
    go_wp2_with fail
    go_ret
    exact ⟨by rw[HP2.out] <;> rfl,HX.out⟩
   ·have E:(p0 == k)=false:=by rw[beq_eq_false_iff_ne];exact hk
    have HP2:=Lib.hid (show Dm.posOf (L.drop (j+1)) k=q from by have:=HP.out;rwa [if_neg hk] at this)
    clear hk
    go_wp2_with fail
    go_roundw
    case rel=>exact ⟨j+1,by omega,by go_num,HP2.out,HX.out⟩
    case measure=>simp [intOf];omega
  ·obtain rfl:j=L.length:=by omega
   have d1:decide ((L.length:Int)<(L.length:Int))=false:=dec_f (by omega)
   rw [List.drop_length] at hp
   have HP:=Lib.hid hp
   clear hb hp
   go_wp2_with fail
   go_ret
   exact ⟨by rw[← HP.out];rfl,HB.out⟩
 --]
theorem pPutHit (x:Dm.Dem) (k:Int) (g:Nat) (W:World) (hg:g<W.heap.size) (hc:W.cell? ⟨g,0,none⟩ = some (.int .i64 k)) :
 Calls Tryz.prog 168 #[demV x,.pointer (some ⟨g,0,none⟩)] W fun e w'=>e=.returned (.bool (decide (k≤x.pt)))∧Below W.heap.size W w':=by
 --[
 obtain ⟨a,b⟩:=x
 have hne:g≠W.heap.size:=by omega
 have X:=Lib.hid ((Below.refl W.heap.size W).alloc (Nat.le_refl _) (demO ⟨a,b⟩))
 show Calls Tryz.prog 168 #[.agg #[.int .i64 a,.int .i64 b],.pointer (some ⟨g,0,none⟩)] W fun e w'=>e=.returned (.bool (decide (k≤a)))∧Below W.heap.size W w'
 cases h1:decide (k≤a)
 ·go_enter Tryz.func168,Tryz.ntmps168
  go_wp2
  go_ret
  exact ⟨rfl,X.out⟩
 ·go_enter Tryz.func168,Tryz.ntmps168
  go_wp2
  go_ret
  exact ⟨rfl,X.out⟩
 --]
def Dm.opp (M:List Dm.Dem) (x:Dm.Dem):Bool:=decide (Dm.posOf M x.pt≠0) && decide (Dm.posOf M x.pt≠x.pos)
theorem pOppHit (x:Dm.Dem) (A:Option Addr) (c:Nat) (M:List Dm.Dem) (g:Nat) (W:World) (hg:g<W.heap.size) (hc:W.cell? ⟨g,0,none⟩ = some (.slice A M.length c)) (hM:LDem.Row W A M) (hl:M.length≤1000000) :
 Calls Tryz.prog 184 #[demV x,.pointer (some ⟨g,0,none⟩)] W fun e w'=>e=.returned (.bool (Dm.opp M x))∧Below W.heap.size W w':=by
 --[
 obtain ⟨a,b⟩:=x
 have hne:g≠W.heap.size:=by omega
 have XX:=(Below.refl W.heap.size W).alloc (Nat.le_refl _) (.cells #[.int .i64 a,.int .i64 b] 125)
 have X:=Lib.hid XX
 have R:=Lib.hid (heap_alloc_new W (.cells #[.int .i64 a,.int .i64 b] 125))
 have C:=Lib.hid (pdPosition_any A c M a _ (hM.below rfl XX) hl)
 have E:Dm.opp M ⟨a,b⟩ = (decide (Dm.posOf M a≠0) && decide (Dm.posOf M a≠b)):=rfl
 have hc2:(W.alloc (.cells #[.int .i64 a,.int .i64 b] 125)).cell? ⟨g,0,none⟩ = some (.slice A M.length c):=(XX.cell (p:=⟨g,0,none⟩) hg).trans hc
 rw [E]
 clear E hc hM XX
 generalize Dm.posOf M a=n at C ⊢
 go_enter Tryz.func184,Tryz.ntmps184
 go_upto_region 1 with fail
 generalize W.alloc (.cells #[.int .i64 a,.int .i64 b] 125)=w1 at X R C hc2 ⊢
 generalize hg1:W.heap.size=g1 at R hne ⊢
 clear hg1
 obtain ⟨t0,t1⟩:=cell_posn R.out
 have gl:=(Array.getElem?_eq_some_iff.1 R.out).1
 have K1:=Lib.hid (fun W' (hW:Below w1.heap.size w1 W')=>(cell_posn ((hW.block _ gl).trans R.out)).2)
 go_wp2_with fail
 refine C.out.mono ?_;rintro e w2 ⟨rfl,hb2⟩
 have k1:=K1.out _ hb2
 have XF:=Lib.hid (X.out.trans (hb2.mono X.out.size))
 clear hb2 t0 t1 hc2 C K1 X
 by_cases h0:n=0
 ·have E:(n != 0)=false:=by rw[bne_eq_false_iff_eq];exact h0
  have V:=Lib.hid (show (decide (n≠0) && decide (n≠b))=false from by rw[decide_eq_false (p:=n≠0) (fun h=>h h0)];rfl)
  clear h0
  go_wp2_with fail
  go_ret
  exact ⟨by rw[V.out] <;> rfl,XF.out⟩
 have E:(n != 0)=true:=by rw[bne_iff_ne];exact h0
 by_cases h1:n=b
 ·have E2:(n != b)=false:=by rw[bne_eq_false_iff_eq];exact h1
  have V:=Lib.hid (show (decide (n≠0) && decide (n≠b))=false from by rw[decide_eq_false (p:=n≠b) (fun h=>h h1),Bool.and_false])
  clear h0 h1
  go_wp2_with fail
  go_ret
  exact ⟨by rw[V.out] <;> rfl,XF.out⟩
 ·have E2:(n != b)=true:=by rw[bne_iff_ne];exact h1
  have V:=Lib.hid (show (decide (n≠0) && decide (n≠b))=true from by rw[decide_eq_true (p:=n≠b) h1,decide_eq_true (p:=n≠0) h0];rfl)
  clear h0 h1
  go_wp2_with fail
  go_ret
  exact ⟨by rw[V.out] <;> rfl,XF.out⟩
 --]
def FirstIs (L:List Dm.Dem) (q:Dm.Dem→Bool) (w:World) (e:Ending) (w':World):Prop:=∃ i:Int,e=.returned (.int .i64 i)∧((i = -1∧∀ x∈L,q x=false)∨∃ k:Nat,∃ x,i=(k:Int)∧L[k]? = some x∧q x=true∧∀ j<k,∀ t,L[j]? = some t→q t=false)∧Below w.heap.size w w'
theorem pIndexPut (A:Option Addr) (c:Nat) (L:List Dm.Dem) (q:Dm.Dem→Bool) (g:Nat) (w:World) (h:LDem.Row w A L) (hl:L.length≤1000000)
 (hq:∀ x W,Below w.heap.size w W→Calls Tryz.prog 168 #[demV x,.pointer (some ⟨g,0,none⟩)] W fun e w'=>e=.returned (.bool (q x))∧Below W.heap.size W w') :
 Calls Tryz.prog 167 #[.slice A L.length c,.func (.func 168) #[] #[.pointer (some ⟨g,0,none⟩)]] w (FirstIs L q w):=by
 --[
 have eg:∀ args w,(callFunc 168 args).run Tryz.prog w=.ok (.enter 168 args) w:=enters_of Tryz.func168 (by kernel_rfl) rfl
 have IA:=Lib.hid h
 have CL:=Lib.hid hq
 clear h hq
 go_enter Tryz.func167,Tryz.ntmps167
 go_wp2
 go_loopg [5,8] L.length (fun gg _ s8 wr=>∃ k:Nat,k≤L.length∧L.length - k≤gg∧s8=.int .i64 k∧Below w.heap.size w wr∧∀ j<k,∀ t,L[j]? = some t→q t=false)
 case atStart=>exact ⟨0,Nat.zero_le _,by omega,rfl,Below.refl _ w,fun j hj=>absurd hj (Nat.not_lt_zero _)⟩
 case round =>
  obtain ⟨k,hk,hgg,rfl,hB,h0⟩:=hrel
  have HB:=Lib.hid hB
  have H0:=Lib.hid h0
  clear hB h0
  by_cases hlt:k<L.length
  ·have d1:decide ((k:Int)<(L.length:Int))=true:=dec_t (by omega)
   have hx:=List.getElem?_eq_getElem hlt
   obtain ⟨b,o,rfl,hb,on⟩:=(IA.out.below rfl HB.out).at hlt
   generalize L[k]=x at hx on
   obtain ⟨a0,a1⟩:=dem_on on
   rw [show k * LDem.m=k * 2 from rfl] at a0 a1
   have HX:=Lib.hid hx
   have CX:=Lib.hid (CL.out x wr HB.out)
   clear on hx
   cases h1:q x with
   | true =>
     rw [h1] at CX
     have HQ:=Lib.hid h1
     clear h1
     go_wp2_with (go_at_fn 168;refine CX.out.mono ?_;rintro e w' ⟨rfl,hb'⟩;have HB2:=Lib.hid (HB.out.trans (hb'.mono HB.out.size));clear hb')
     go_ret
     exact ⟨(k:Int),rfl,.inr ⟨k,x,rfl,HX.out,HQ.out,H0.out⟩,HB2.out⟩
   | false =>
     rw [h1] at CX
     have N:=Lib.hid (fun j (hj:j<k+1) t (ht:L[j]? = some t)=>(show q t=false from by
      by_cases hjk:j=k
      ·subst hjk
       rw [HX.out] at ht
       cases ht
       exact h1
      ·exact H0.out j (by omega) t ht))
     clear h1
     go_wp2_with (go_at_fn 168;refine CX.out.mono ?_;rintro e w' ⟨rfl,hb'⟩;have HB2:=Lib.hid (HB.out.trans (hb'.mono HB.out.size));clear hb')
     go_roundg (L.length - (k+1))
     case measure=>omega
     case rel=>exact ⟨k+1,by omega,by omega,by go_num,HB2.out,N.out⟩
  ·obtain rfl:k=L.length:=by omega
   go_wp2
   go_ret
   exact ⟨-1,rfl,.inl ⟨rfl,fun x hx=>by
    obtain ⟨j,hj,rfl⟩:=List.getElem_of_mem hx
    exact H0.out j hj _ (List.getElem?_eq_getElem hj)⟩,HB.out⟩
 --]
theorem pIndexOpp (A:Option Addr) (c:Nat) (L:List Dm.Dem) (q:Dm.Dem→Bool) (g:Nat) (w:World) (h:LDem.Row w A L) (hl:L.length≤1000000)
 (hq:∀ x W,Below w.heap.size w W→Calls Tryz.prog 184 #[demV x,.pointer (some ⟨g,0,none⟩)] W fun e w'=>e=.returned (.bool (q x))∧Below W.heap.size W w') :
 Calls Tryz.prog 167 #[.slice A L.length c,.func (.func 184) #[] #[.pointer (some ⟨g,0,none⟩)]] w (FirstIs L q w):=by
 --[
 have eg:∀ args w,(callFunc 184 args).run Tryz.prog w=.ok (.enter 184 args) w:=enters_of Tryz.func184 (by kernel_rfl) rfl
 have IA:=Lib.hid h
 have CL:=Lib.hid hq
 clear h hq
 go_enter Tryz.func167,Tryz.ntmps167
 go_wp2
 go_loopg [5,8] L.length (fun gg _ s8 wr=>∃ k:Nat,k≤L.length∧L.length - k≤gg∧s8=.int .i64 k∧Below w.heap.size w wr∧∀ j<k,∀ t,L[j]? = some t→q t=false)
 case atStart=>exact ⟨0,Nat.zero_le _,by omega,rfl,Below.refl _ w,fun j hj=>absurd hj (Nat.not_lt_zero _)⟩
 case round =>
  obtain ⟨k,hk,hgg,rfl,hB,h0⟩:=hrel
  have HB:=Lib.hid hB
  have H0:=Lib.hid h0
  clear hB h0
  by_cases hlt:k<L.length
  ·have d1:decide ((k:Int)<(L.length:Int))=true:=dec_t (by omega)
   have hx:=List.getElem?_eq_getElem hlt
   obtain ⟨b,o,rfl,hb,on⟩:=(IA.out.below rfl HB.out).at hlt
   generalize L[k]=x at hx on
   obtain ⟨a0,a1⟩:=dem_on on
   rw [show k * LDem.m=k * 2 from rfl] at a0 a1
   have HX:=Lib.hid hx
   have CX:=Lib.hid (CL.out x wr HB.out)
   clear on hx
   cases h1:q x with
   | true =>
     rw [h1] at CX
     have HQ:=Lib.hid h1
     clear h1
     go_wp2_with (go_at_fn 184;refine CX.out.mono ?_;rintro e w' ⟨rfl,hb'⟩;have HB2:=Lib.hid (HB.out.trans (hb'.mono HB.out.size));clear hb')
     go_ret
     exact ⟨(k:Int),rfl,.inr ⟨k,x,rfl,HX.out,HQ.out,H0.out⟩,HB2.out⟩
   | false =>
     rw [h1] at CX
     have N:=Lib.hid (fun j (hj:j<k+1) t (ht:L[j]? = some t)=>(show q t=false from by
      by_cases hjk:j=k
      ·subst hjk
       rw [HX.out] at ht
       cases ht
       exact h1
      ·exact H0.out j (by omega) t ht))
     clear h1
     go_wp2_with (go_at_fn 184;refine CX.out.mono ?_;rintro e w' ⟨rfl,hb'⟩;have HB2:=Lib.hid (HB.out.trans (hb'.mono HB.out.size));clear hb')
     go_roundg (L.length - (k+1))
     case measure=>omega
     case rel=>exact ⟨k+1,by omega,by omega,by go_num,HB2.out,N.out⟩
  ·obtain rfl:k=L.length:=by omega
   go_wp2
   go_ret
   exact ⟨-1,rfl,.inl ⟨rfl,fun x hx=>by
    obtain ⟨j,hj,rfl⟩:=List.getElem_of_mem hx
    exact H0.out j hj _ (List.getElem?_eq_getElem hj)⟩,HB.out⟩
 --]
theorem pHasOpp (A:Option Addr) (c:Nat) (L:List Dm.Dem) (q:Dm.Dem→Bool) (g:Nat) (w:World) (h:LDem.Row w A L) (hl:L.length≤1000000)
 (hq:∀ x W,Below w.heap.size w W→Calls Tryz.prog 184 #[demV x,.pointer (some ⟨g,0,none⟩)] W fun e w'=>e=.returned (.bool (q x))∧Below W.heap.size W w') :
 Calls Tryz.prog 183 #[.slice A L.length c,.func (.func 184) #[] #[.pointer (some ⟨g,0,none⟩)]] w (OneIs (.bool (L.any q)) w):=by
 --[
 have HC:=Lib.hid (pIndexOpp A c L q g w h hl hq)
 clear h hq
 go_enter Tryz.func183,Tryz.ntmps183
 go_wp2_with fail
 refine HC.out.mono ?_;rintro e w' ⟨i,rfl,h1,hb'⟩
 have HB:=Lib.hid hb'
 clear hb' HC
 rcases h1 with ⟨rfl,hn⟩ | ⟨k,x,rfl,hx,hqx,-⟩
 ·have V:=Lib.hid (show L.any q=false from by rw[List.any_eq_false];exact fun x hx=>by rw[hn x hx];decide)
  clear hn
  go_wp2_with fail
  go_ret
  exact ⟨by rw[V.out] <;> rfl,HB.out⟩
 ·have V:=Lib.hid (show L.any q=true from List.any_eq_true.2 ⟨x,List.mem_of_getElem? hx,hqx⟩)
  have D:decide (0≤(k:Int))=true:=dec_t (by omega)
  clear hx hqx
  go_wp2_with fail
  go_ret
  exact ⟨by rw[V.out] <;> rfl,HB.out⟩
 --]
theorem pdOpposed_any (A:Option Addr) (c:Nat) (L:List Dm.Dem) (A':Option Addr) (c':Nat) (M:List Dm.Dem) (w:World) (h:LDem.Row w A L) (hl:L.length≤1000000) (h':LDem.Row w A' M) (hl':M.length≤1000000) :
 Calls Tryz.prog 161 #[.slice A L.length c,.slice A' M.length c'] w (OneIs (.bool (Dm.opposed L M)) w):=by
 --[
 have hb0:=(Below.refl w.heap.size w).alloc (Nat.le_refl _) (.cells #[.slice A' M.length c'] 63)
 have hcell:(w.alloc (.cells #[.slice A' M.length c'] 63)).cell? ⟨w.heap.size,0,none⟩ = some (.slice A' M.length c'):=cell_of_row _ _ 0 _ _ _ (heap_alloc_new w (.cells #[.slice A' M.length c'] 63))
 have hsz:w.heap.size<(w.alloc (.cells #[.slice A' M.length c'] 63)).heap.size:=by simp
 have HC:=Lib.hid (pHasOpp A c L (Dm.opp M) w.heap.size _ (h.below rfl hb0) hl fun x W hW=>pOppHit x A' c' M w.heap.size W (Nat.lt_of_lt_of_le hsz hW.size) ((hW.cell (p:=⟨w.heap.size,0,none⟩) hsz).trans hcell) ((h'.below rfl hb0).below rfl hW) hl')
 have HB0:=Lib.hid hb0
 have V:=Lib.hid (show L.any (Dm.opp M)=Dm.opposed L M from rfl)
 clear h h' hb0 hcell hsz
 go_enter Tryz.func161,Tryz.ntmps161
 go_wp2_with fail
 refine HC.out.mono ?_;rintro e w' ⟨rfl,hb'⟩
 go_wp2_with fail
 go_ret
 exact ⟨by rw[V.out] <;> rfl,HB0.out.trans (hb'.mono HB0.out.size)⟩
 --]
def DemsNew (L:List Dm.Dem) (w:World) (e:Ending) (w':World):Prop:=∃ B d,e=.returned (.slice B L.length d)∧LDem.Row w' B L∧L.length≤d∧Below w.heap.size w w'∧∀ a,B=some a→w.heap.size≤a.block
theorem DemsNew.yes {L:List Dm.Dem} {w:World} {e:Ending} {w':World} (h:DemsNew L w e w'):DemsYes L w e w':=by
 obtain ⟨B,d,h1,h2,h3,h4,-⟩:=h
 exact ⟨B,d,h1,h2,h3,h4⟩
theorem DemsNew.of_own {L:List Dm.Dem} {w w':World} {base n:Nat} {v:Value} (h:w'.ownsRow base 125 LDem.m v n (LDem.all L)) (hn:n=L.length) (hb:Below w.heap.size w w') (hbase:w.heap.size≤base):DemsNew L w (.returned v) w':=by
 subst hn
 have hlt:=h.lt
 obtain ⟨-,B,d,rfl,hc,hR⟩:=Lies.Row.of_own (E:=LDem) h
 exact ⟨B,d,rfl,hR,hc,hb,fun a ha=>by
  subst ha
  exact Nat.le_trans hbase (hlt a.block rfl).1⟩
theorem pdClone_any (A:Option Addr) (c:Nat) (L:List Dm.Dem) (w:World) (h:LDem.Row w A L) (hl:L.length≤1000) :
 Calls Tryz.prog 166 #[.slice A L.length c] w (DemsNew L w):=by
 --[
 have q22:∀ (w:World) (a:Option Addr) (n c n' c':Nat),(binOp .eql 63 (.slice a n c) (.slice none n' c')).run Tryz.prog w=.ok (.bool a.isNone) w:=fun w a n c n' c'=>Lib.run_eql_slice_nil w _ _ a n c n' c' Tryz.underlying63
 cases A with
 | none =>
   obtain rfl:L=[]:=by
    rcases h with h | ⟨b,o,hA,-⟩
    ·exact h
    ·cases hA
   go_enter Tryz.func166,Tryz.ntmps166
   go_wp2_with fail
   go_ret
   exact ⟨none,0,rfl,.inl rfl,Nat.le_refl _,Below.refl _ _,fun a ha=>by cases ha⟩
 | some a =>
   obtain ⟨b,o,sp⟩:=a
   have HB:=Lib.hid ((Below.refl w.heap.size w).alloc (Nat.le_refl _) (.cells #[] 125))
   have HR:=Lib.hid (h.below rfl HB.out)
   have HO:=Lib.hid (owndm_empty w rfl (Nat.le_refl _))
   clear h
   obtain ⟨i0,hi,hz0,hz1,hz2⟩:=info_parts infoDem
   go_enter Tryz.func166,Tryz.ntmps166
   go_wp2_with (at_builtin;refine wpList_append_at LDem rfl (.tmp 5) (.tmp 6) 63 rfl w.heap.size 125 i0 _ 16 Tryz.underlying63 hi hz0 hz1 hz2 rfl (.slice (some ⟨w.heap.size,0,none⟩) 0 0) 0 [] rfl HO.out (some ⟨b,o,sp⟩) L.length c L rfl rfl HR.out (by omega) (by omega) (by simp) ?_;intro v1 w1 hown hg)
   have HB1:=Lib.hid (Below.grown HB.out hg (by simp) (fun k hk=>by cases hk;exact Nat.le_refl _))
   clear hg
   go_wp2_with fail
   go_ret
   exact DemsNew.of_own hown (by omega) HB1.out (Nat.le_refl _)
 --]
def GrownTo (w:World) (e:Ending) (w':World):Prop:=∃ cap,e=.returned (.slice (some ⟨w.heap.size,0,none⟩) 0 cap)∧w'.ownsRow w.heap.size 125 2 (.slice (some ⟨w.heap.size,0,none⟩) 0 cap) 0 []∧Below w.heap.size w w'
theorem pdGrow_any (n:Nat) (w:World) (h0:0<n) (hl:n≤1000) :
 Calls Tryz.prog 185 #[.slice none 0 0,.int .i64 n] w (GrownTo w):=by
 --[
 obtain ⟨i0,hi,hz0,hz1,hz2⟩:=info_parts infoDem
 have hr:=fun ty=>Lib.run_append_nil_zeros (P:=Tryz.prog) w 63 3 ty 125 i0 (.agg #[.int .i64 0,.int .i64 0]) .i64 .i64 Tryz.underlying63 Tryz.underlying3 hi hz0 n h0 (by omega) (by omega) (by rw[hz2];omega)
 have hge:=grownCap_ge w n 0 125
 have hmx:=grownCap_le_maxLen w n 0 125 (by unfold maxLen;omega)
 generalize grownCap w n 0 125=G at hr hge hmx
 have hsz:(Builtin.zeroCells (Value.agg #[.int .i64 0,.int .i64 0]).cells n++Builtin.zeroCells (Value.agg #[.int .i64 0,.int .i64 0]).cells (G - n)).size=G * 2:=by
  rw [Array.size_append,size_zeroCells,size_zeroCells,show (Value.agg #[.int .i64 0,.int .i64 0]).cells.size=2 from rfl,← Nat.add_mul]
  congr 1;omega
 generalize Builtin.zeroCells (Value.agg #[.int .i64 0,.int .i64 0]).cells n++Builtin.zeroCells (Value.agg #[.int .i64 0,.int .i64 0]).cells (G - n)=Z at hr hsz
 have HB:=Lib.hid ((Below.refl w.heap.size w).drew.alloc (Nat.le_refl _) (.cells Z 125))
 have HO:=Lib.hid (show (w.drew.alloc (.cells Z 125)).ownsRow w.heap.size 125 2 (.slice (some ⟨w.heap.size,0,none⟩) 0 G) 0 [] from
  ⟨rfl,.inr ⟨w.heap.size,G,Z,rfl,Nat.le_refl _,heap_alloc_new w.drew _,Nat.zero_le _,hmx,hsz,by simp⟩⟩)
 have D1:decide ((n:Int)<0)=false:=dec_f (by omega)
 have D2:decide ((0:Int)<(n:Int))=true:=dec_t (by omega)
 have HG:(G:Int)≤9223372036854775807:=by unfold maxLen at hmx;omega
 clear hsz hmx hz1 hz2 hi
 go_enter Tryz.func185,Tryz.ntmps185
 go_wp2_with (at_builtin;refine Lib.wpList_append_run _ rfl _ _ _ _ rfl _ _ rfl rfl _ _ (hr _) ?_)
 go_ret
 exact ⟨G,rfl,HO.out,HB.out⟩
 --]
def Dm.catTo (Ls:Nat→List Dm.Dem):Nat→List Dm.Dem
 | 0=>[]
 | k+1=>Dm.catTo Ls k++Ls k
theorem Dm.catTo_len (Ls:Nat→List Dm.Dem):∀ {k m:Nat},k≤m→(Dm.catTo Ls k).length≤(Dm.catTo Ls m).length
 | k, 0, h => by obtain rfl:k=0:=by omega
                 exact Nat.le_refl _
 | k, m+1,h=>by
   rcases Nat.lt_or_ge m k with h2 | h2
   ·obtain rfl:k=m+1:=by omega
    exact Nat.le_refl _
   ·have:=Dm.catTo_len Ls h2
    rw [show Dm.catTo Ls (m+1)=Dm.catTo Ls m++Ls m from rfl,List.length_append]
    omega
theorem pdConcat_any (m:Nat) (g:Nat) (As:Nat→Option Addr) (cs:Nat→Nat) (Ls:Nat→List Dm.Dem) (w:World) (hg:g<w.heap.size)
 (hC:∀ k,k<m→w.cell? ⟨g,k,none⟩ = some (.slice (As k) (Ls k).length (cs k))) (hR:∀ k,k<m→LDem.Row w (As k) (Ls k)) (hm:m≤1000) (h0:0<(Dm.catTo Ls m).length) (hl:(Dm.catTo Ls m).length≤1000) :
 Calls Tryz.prog 169 #[.slice (some ⟨g,0,none⟩) m m] w (DemsNew (Dm.catTo Ls m) w):=by
 --[
 have B0:=Lib.hid (Below.refl w.heap.size w)
 have KC:=Lib.hid (fun W (hW:Below w.heap.size w W) k (hk:k<m)=>(hW.cell (p:=⟨g,k,none⟩) hg).trans (hC k hk))
 have KR:=Lib.hid (fun W (hW:Below w.heap.size w W) k (hk:k<m)=>(hR k hk).below rfl hW)
 have KL:=Lib.hid (fun k (hk:k≤m)=>Dm.catTo_len Ls hk)
 clear hC hR
 obtain ⟨i0,hi,hz0,hz1,hz2⟩:=info_parts infoDem
 go_enter Tryz.func169,Tryz.ntmps169
 go_wp2_with fail
 go_loopw [3,5,11] (fun v1 _ v2 w'=>∃ k:Nat,k≤m∧v1=.int .i64 ((Dm.catTo Ls k).length:Int)∧v2=.int .i64 k∧Below w.heap.size w w') (fun _ _ v2 _=>m - (intOf v2).toNat)
 case atStart=>exact ⟨0,Nat.zero_le _,rfl,rfl,B0.out⟩
 case round =>
  obtain ⟨k,hk,rfl,rfl,hb⟩:=hrel
  have HB:=Lib.hid hb
  clear hb
  by_cases hlt:k<m
  ·have c0:=KC.out _ HB.out k hlt
   have hk1:=KL.out (k+1) hlt
   have hk0:=KL.out k hk
   have HL:=Lib.hid (show (Dm.catTo Ls (k+1)).length=(Dm.catTo Ls k).length+(Ls k).length from by rw[show Dm.catTo Ls (k+1)=Dm.catTo Ls k++Ls k from rfl,List.length_append])
   have d1:decide ((k:Int)<(m:Int))=true:=dec_t (by omega)
   have i0:(0:Int)≤(k:Int):=Int.natCast_nonneg k
   have i1:(k:Int)<(m:Int):=by omega
   have q:IntKind.i64.wrap (((Dm.catTo Ls k).length:Int)+((Ls k).length:Int))=((Dm.catTo Ls (k+1)).length:Int):=by
    have:=HL.out
    rw [IntWalk.i64_in _ (by omega)];omega
   have D2:decide (((Dm.catTo Ls (k+1)).length:Int)<0)=false:=dec_f (by omega)
   clear hk1 hk0
   go_wp2_with fail
   go_roundw
   case rel=>exact ⟨k+1,by omega,rfl,by go_num,HB.out⟩
   case measure=>simp [intOf];omega
  ·obtain rfl:k=m:=by omega
   have d1:decide ((k:Int)<(k:Int))=false:=dec_f (by omega)
   have CG:=Lib.hid (pdGrow_any (Dm.catTo Ls k).length wr h0 hl)
   have HN:=Lib.hid h0
   clear h0
   go_wp2_with fail
   refine CG.out.mono ?_;rintro e w2 ⟨cap,rfl,ho,hb2⟩
   have O2:=Lib.hid (show w2.ownsRow wr.heap.size 125 2 (.slice (some ⟨wr.heap.size,0,none⟩) 0 cap) (Dm.catTo Ls 0).length (LDem.all (Dm.catTo Ls 0)) from ho)
   have B2:=Lib.hid (HB.out.trans (hb2.mono HB.out.size))
   have S2:=Lib.hid hb2.size
   have SZ:=Lib.hid HB.out.size
   clear ho hb2 CG
   go_wp2_with fail
   generalize wr.heap.size=base at O2 S2 SZ ⊢
   go_loopw [6,8,27] (fun v1 _ v2 w'=>∃ j:Nat,j≤k∧v2=.int .i64 j∧w'.ownsRow base 125 2 v1 (Dm.catTo Ls j).length (LDem.all (Dm.catTo Ls j))∧base≤w'.heap.size∧Below w.heap.size w w') (fun _ _ v2 _=>k - (intOf v2).toNat)
   case atStart=>exact ⟨0,Nat.zero_le _,rfl,O2.out,S2.out,B2.out⟩
   case round =>
    obtain ⟨j,hj,rfl,ho,hs,hb⟩:=hrel
    have HO:=Lib.hid ho
    have HB3:=Lib.hid hb
    have HS3:=Lib.hid hs
    clear ho hb hs
    by_cases hjt:j<k
    ·have c0:=KC.out _ HB3.out j hjt
     have hk1:=KL.out (j+1) hjt
     have HL:=Lib.hid (show (Dm.catTo Ls (j+1)).length=(Dm.catTo Ls j).length+(Ls j).length from by rw[show Dm.catTo Ls (j+1)=Dm.catTo Ls j++Ls j from rfl,List.length_append])
     have HE:=Lib.hid (show LDem.all (Dm.catTo Ls (j+1))=LDem.all (Dm.catTo Ls j)++LDem.all (Ls j) from by rw[show Dm.catTo Ls (j+1)=Dm.catTo Ls j++Ls j from rfl,LDem.all_append])
     have hsum:(Dm.catTo Ls j).length+(Ls j).length≤1000:=by have:=HL.out;omega
     have d1:decide ((j:Int)<(k:Int))=true:=dec_t (by omega)
     have i0':(0:Int)≤(j:Int):=Int.natCast_nonneg j
     have i1:(j:Int)<(k:Int):=by omega
     clear hk1
     go_wp2_with (at_builtin;refine wpList_append_at LDem rfl (.tmp 31) (.tmp 32) 63 rfl base 125 i0 _ 16 Tryz.underlying63 hi hz0 hz1 hz2 rfl _ (Dm.catTo Ls j).length (LDem.all (Dm.catTo Ls j)) rfl HO.out (As j) (Ls j).length (cs j) (Ls j) rfl rfl (KR.out _ HB3.out j hjt) (by omega) (by omega) HS3.out ?_;intro v4 w4 hown4 hg4)
     have HB4:=Lib.hid (Below.grown HB3.out hg4 HB3.out.size (fun b hb=>Nat.le_trans SZ.out (HO.out.lt b hb).1))
     have HS4:=Lib.hid (Nat.le_trans HS3.out hg4.size)
     have HO4:=Lib.hid (show w4.ownsRow base 125 2 v4 (Dm.catTo Ls (j+1)).length (LDem.all (Dm.catTo Ls (j+1))) from by rw[HL.out,HE.out];exact hown4)
     clear hown4 hg4
     go_wp2_with fail
     go_roundw
     case rel=>exact ⟨j+1,by omega,by go_num,HO4.out,HS4.out,HB4.out⟩
     case measure=>simp [intOf];omega
    ·obtain rfl:j=k:=by omega
     have d1:decide ((j:Int)<(j:Int))=false:=dec_f (by omega)
     go_wp2_with fail
     go_ret
     exact DemsNew.of_own HO.out rfl HB3.out SZ.out
 --]
theorem pdConcat3 {g:Nat} {A1 A2 A3:Option Addr} {c1 c2 c3:Nat} {n1 n2 n3:Nat} {w:World} (L1 L2 L3:List Dm.Dem) (h1:L1.length=n1) (h2:L2.length=n2) (h3:L3.length=n3)
 (hb:w.heap[g]? = some (.cells #[.slice A1 n1 c1,.slice A2 n2 c2,.slice A3 n3 c3] 63 (0,0)))
 (r1:LDem.Row w A1 L1) (r2:LDem.Row w A2 L2) (r3:LDem.Row w A3 L3) (h0:0<n2) (hl:n1+n2+n3≤1000) :
 Calls Tryz.prog 169 #[.slice (some ⟨g,0,none⟩) 3 3] w (DemsNew (L1++L2++L3) w):=by
 subst h1 h2 h3
 let As:Nat→Option Addr:=fun | 0=>A1 | 1=>A2 | _=>A3
 let cs:Nat→Nat:=fun | 0=>c1 | 1=>c2 | _=>c3
 let Ls:Nat→List Dm.Dem:=fun | 0=>L1 | 1=>L2 | _=>L3
 have e:Dm.catTo Ls 3=L1++L2++L3:=by
  show (([]++L1)++L2)++L3=_
  rw [List.nil_append]
 have hlen:(L1++L2++L3).length=L1.length+L2.length+L3.length:=by rw[List.length_append,List.length_append]
 have := pdConcat_any 3 g As cs Ls w (Array.getElem?_eq_some_iff.1 hb).1 (fun k hk=>by
  match k,hk with
  | 0,_=>exact cell_of_row w g 0 _ _ _ hb
  | 1,_=>exact cell_of_row w g 1 _ _ _ hb
  | 2,_=>exact cell_of_row w g 2 _ _ _ hb)
  (fun k hk=>by
   match k,hk with
   | 0,_=>exact r1
   | 1,_=>exact r2
   | 2,_=>exact r3) (by omega) (by rw[e,hlen];omega) (by rw[e,hlen];omega)
 rw [e] at this
 exact this
theorem put_call (w3:World) (x0 x1:Int) {A1 A3:Option Addr} {c1 c3:Nat} (L1 L3:List Dm.Dem) {n1 n3:Nat} (h1:L1.length=n1) (h3:L3.length=n3) (r1:LDem.Row w3 A1 L1) (r3:LDem.Row w3 A3 L3) (hl:n1+n3≤900) :
 Calls Tryz.prog 169 #[.slice (some ⟨w3.heap.size+1,0,none⟩) 3 3]
  ((w3.alloc (.cells #[.int .i64 x0,.int .i64 x1] 125)).alloc (.cells #[.slice A1 n1 c1,.slice (some ⟨w3.heap.size,0,none⟩) 1 1,.slice A3 n3 c3] 63)).drew fun e w'=>∃ N B d,e=.returned (.slice B N d)∧N=(L1++[(⟨x0,x1⟩:Dm.Dem)]++L3).length∧LDem.Row w' B (L1++[(⟨x0,x1⟩:Dm.Dem)]++L3)∧(L1++[(⟨x0,x1⟩:Dm.Dem)]++L3).length≤d∧Below w3.heap.size w3 w'∧∀ a,B=some a→w3.heap.size≤a.block:=by
 have a0:=(Below.refl w3.heap.size w3).alloc (Nat.le_refl _) (.cells #[.int .i64 x0,.int .i64 x1] 125)
 have a1:=(a0.alloc a0.size (.cells #[.slice A1 n1 c1,.slice (some ⟨w3.heap.size,0,none⟩) 1 1,.slice A3 n3 c3] 63)).drew
 have o2:=(World.ownsRow.alloc (owndm_one w3 ⟨x0,x1⟩ (g:=w3.heap.size) (base:=w3.heap.size) rfl (Nat.le_refl _)) (.cells #[.slice A1 n1 c1,.slice (some ⟨w3.heap.size,0,none⟩) 1 1,.slice A3 n3 c3] 63)).drew
 have hb:=heap_alloc_new (w3.alloc (.cells #[.int .i64 x0,.int .i64 x1] 125)) (.cells #[.slice A1 n1 c1,.slice (some ⟨w3.heap.size,0,none⟩) 1 1,.slice A3 n3 c3] 63)
 rw [show (w3.alloc (.cells #[.int .i64 x0,.int .i64 x1] 125)).heap.size=w3.heap.size+1 by simp] at hb
 refine (pdConcat3 (n2:=1) (w:=((w3.alloc (.cells #[.int .i64 x0,.int .i64 x1] 125)).alloc (.cells #[.slice A1 n1 c1,.slice (some ⟨w3.heap.size,0,none⟩) 1 1,.slice A3 n3 c3] 63)).drew) L1 [⟨x0,x1⟩] L3 h1 rfl h3 hb (r1.below rfl a1) (OwnDm.row o2) (r3.below rfl a1) (by omega) (by omega)).mono ?_
 rintro e w' ⟨B,d,rfl,hR,hd,hb',hnew⟩
 exact ⟨_,B,d,rfl,rfl,hR,hd,a1.trans (hb'.mono a1.size),fun a ha=>Nat.le_trans a1.size (hnew a ha)⟩
namespace Dm
theorem tw_len {α:Type} {p:α→Bool}:∀ {L:List α} {k:Nat} {y:α},L[k]? = some y→p y=false→(∀ j<k,∀ t,L[j]? = some t→p t=true)→(L.takeWhile p).length=k
 | [],k,y,h,_,_=>by simp at h
 | x :: L,0,y,h,hy,_=>by
   obtain rfl:x=y:=by simpa using h
   rw [List.takeWhile_cons,if_neg (by rw[hy];decide)];rfl
 | x :: L,k+1,y,h,hy,hb=>by
   have hx:=hb 0 (by omega) x rfl
   rw [List.takeWhile_cons,if_pos hx,List.length_cons]
   congr 1
   exact tw_len (L:=L) (by simpa using h) hy fun j hj t ht=>hb (j+1) (by omega) t (by simpa using ht)
theorem tw_all {α:Type} {p:α→Bool} {L:List α} (h:∀ x∈L,p x=true):(L.takeWhile p).length=L.length:=by
 induction L with
 | nil=>rfl
 | cons y L ih =>
   rw [List.takeWhile_cons,if_pos (h y (List.mem_cons_self ..)),List.length_cons,List.length_cons,ih fun x hx=>h x (List.mem_cons_of_mem _ hx)]
theorem low_not {k:Int} {x:Dem}:low k x = !decide (k≤x.pt):=by
 unfold low
 by_cases h:x.pt<k
 ·rw[decide_eq_true h,decide_eq_false (by omega)];rfl
 ·rw[decide_eq_false h,decide_eq_true (by omega)];rfl
end Dm
theorem pdPut_new (A:Option Addr) (c:Nat) (L:List Dm.Dem) (x:Dm.Dem) (w:World) (h:LDem.Row w A L) (hl:L.length≤900) (hc:L.length≤c) :
 Calls Tryz.prog 153 #[.slice A L.length c,demV x] w (DemsNew (Dm.put L x) w):=by
 --[
 obtain ⟨x0,x1⟩:=x
 have XX:=(Below.refl w.heap.size w).alloc (Nat.le_refl _) (.cells #[.int .i64 x0,.int .i64 x1] 125)
 have X0:=Lib.hid XX
 have RX:=Lib.hid (heap_alloc_new w (.cells #[.int .i64 x0,.int .i64 x1] 125))
 have HR:=Lib.hid (h.below rfl XX)
 have CP:=Lib.hid (pdPosition_any A c L x0 _ HR.out (by omega))
 clear h XX
 by_cases h0:Dm.posOf L x0=0
 ·rw [h0] at CP
  have P:=Lib.hid (Dm.put_free (x:=⟨x0,x1⟩) h0)
  clear h0
  go_enter Tryz.func153,Tryz.ntmps153
  go_upto_region 1 with fail
  generalize w.alloc (.cells #[.int .i64 x0,.int .i64 x1] 125)=w1 at X0 RX HR CP ⊢
  generalize w.heap.size=gx at RX ⊢
  have gl:=(Array.getElem?_eq_some_iff.1 RX.out).1
  obtain ⟨t0,t1⟩:=cell_posn RX.out
  have KX:=Lib.hid (fun W' (hW:Below w1.heap.size w1 W')=>(hW.block _ gl).trans RX.out)
  go_wp2_with fail
  refine CP.out.mono ?_;rintro e w2 ⟨rfl,hb2⟩
  have B2:=Lib.hid hb2
  have CI:=Lib.hid (pIndexPut A c L (fun y=>decide (x0≤y.pt)) gx w2 (HR.out.below rfl hb2) (by omega) fun y W hW=>pPutHit y x0 gx W (Nat.lt_of_lt_of_le gl (hb2.trans (hW.mono hb2.size)).size) (cell_posn (KX.out W (hb2.trans (hW.mono hb2.size)))).1)
  obtain ⟨t0',t1'⟩:=cell_posn (KX.out _ hb2)
  clear hb2 t0 t1 CP
  go_wp2_with fail
  refine CI.out.mono ?_;rintro e w3 ⟨i,rfl,hi,hb3⟩
  have B3:=Lib.hid (B2.out.trans (hb3.mono B2.out.size))
  clear hb3 CI t0' t1' B2
  have PRE:=Lib.hid (cell_posn (KX.out _ B3.out))
  have RW:=Lib.hid (fun W (hW:Below w3.heap.size w3 W)=>HR.out.below rfl (B3.out.trans (hW.mono B3.out.size)))
  have KS:=Lib.hid (fun W (hW:Below w3.heap.size w3 W)=>cell_posn (KX.out _ (B3.out.trans (hW.mono B3.out.size))))
  have T0:=Lib.hid (Below.refl w3.heap.size w3)
  have gx3:gx<w3.heap.size:=Nat.lt_of_lt_of_le gl B3.out.size
  have XZ:=Lib.hid (Nat.le_trans X0.out.size B3.out.size)
  have XF:=Lib.hid (fun W (hW:Below w3.heap.size w3 W)=>X0.out.trans ((B3.out.trans (hW.mono B3.out.size)).mono X0.out.size))
  clear KX gl
  rcases hi with ⟨rfl,hn⟩ | ⟨k,y,rfl,hk,hy,hb⟩
  ·have hk:(L.takeWhile (Dm.low x0)).length=L.length:=Dm.tw_all fun y hy=>by have h7:decide (x0≤y.pt)=false:=hn y hy;rw[Dm.low_not,h7];rfl
   have PK:=Lib.hid (show Dm.put L ⟨x0,x1⟩ = L++[⟨x0,x1⟩]++[] from by
    rw [P.out,hk,List.take_length,List.drop_length,List.append_nil])
   have D1:decide ((-1:Int)<0)=true:=by decide
   have i0:(0:Int)≤(L.length:Int):=Int.natCast_nonneg _
   have lc:(L.length:Int)≤(c:Int):=by omega
   clear hk hn P
   cases A with
   | none =>
     go_upto_region 6 with fail
     obtain ⟨t0,t1⟩:=PRE.out
     go_region_held3 (fun W=>W.cell? ⟨gx,0,none⟩ = some (.int .i64 x0)∧W.cell? ⟨gx,1,none⟩ = some (.int .i64 x1))
      (first | with_reducible exact KS.out _ T0.out.drew | with_reducible exact KS.out _ h9 | (go_keep;done))
      (first | (go_at_call 169;refine (put_call w3 x0 x1 L [] rfl rfl (RW.out _ T0.out) (.inl rfl) (by omega)).mono ?_;rintro e9 w9 ⟨N9,B9,d9,rfl,hN9,hR9,hd9,h9,hw9⟩;have HN9:=Lib.hid hN9;have HW9:=Lib.hid hw9;clear hN9 hw9))
     all_goals go_wp2_with fail
     all_goals go_ret
     all_goals (rw[PK.out];exact ⟨B9,d9,by rw[← HN9.out] <;> rfl,hR9,hd9,XF.out _ h9,fun a ha=>Nat.le_trans XZ.out (HW9.out a ha)⟩)
   | some a =>
     obtain ⟨b,o,sp⟩:=a
     by_cases hck:c=L.length
     ·subst hck
      go_upto_region 6 with fail
      obtain ⟨t0,t1⟩:=PRE.out
      go_region_held3 (fun W=>W.cell? ⟨gx,0,none⟩ = some (.int .i64 x0)∧W.cell? ⟨gx,1,none⟩ = some (.int .i64 x1))
       (first | with_reducible exact KS.out _ T0.out.drew | with_reducible exact KS.out _ h9 | (go_keep;done))
       (first | (go_at_call 169;refine (put_call w3 x0 x1 L [] rfl rfl (RW.out _ T0.out) (.inl rfl) (by omega)).mono ?_;rintro e9 w9 ⟨N9,B9,d9,rfl,hN9,hR9,hd9,h9,hw9⟩;have HN9:=Lib.hid hN9;have HW9:=Lib.hid hw9;clear hN9 hw9))
      all_goals go_wp2_with fail
      all_goals go_ret
      all_goals (rw[PK.out];exact ⟨B9,d9,by rw[← HN9.out] <;> rfl,hR9,hd9,XF.out _ h9,fun a ha=>Nat.le_trans XZ.out (HW9.out a ha)⟩)
     ·
      go_upto_region 6 with fail
      obtain ⟨t0,t1⟩:=PRE.out
      go_region_held3 (fun W=>W.cell? ⟨gx,0,none⟩ = some (.int .i64 x0)∧W.cell? ⟨gx,1,none⟩ = some (.int .i64 x1))
       (first | with_reducible exact KS.out _ T0.out.drew | with_reducible exact KS.out _ h9 | (go_keep;done))
       (first | (go_at_call 169;refine (put_call w3 x0 x1 L [] rfl rfl (RW.out _ T0.out) (.inl rfl) (by omega)).mono ?_;rintro e9 w9 ⟨N9,B9,d9,rfl,hN9,hR9,hd9,h9,hw9⟩;have HN9:=Lib.hid hN9;have HW9:=Lib.hid hw9;clear hN9 hw9))
      all_goals go_wp2_with fail
      all_goals go_ret
      all_goals (rw[PK.out];exact ⟨B9,d9,by rw[← HN9.out] <;> rfl,hR9,hd9,XF.out _ h9,fun a ha=>Nat.le_trans XZ.out (HW9.out a ha)⟩)
  ·have hkl:=(List.getElem?_eq_some_iff.1 hk).1
   have PK:=Lib.hid (show Dm.put L ⟨x0,x1⟩ = L.take k++[⟨x0,x1⟩]++L.drop k from by
    rw [P.out,Dm.tw_len hk (show Dm.low x0 y=false by have h7:decide (x0≤y.pt)=true:=hy;rw[Dm.low_not,h7];rfl) (fun j hj t ht=>by have h7:decide (x0≤t.pt)=false:=hb j hj t ht;rw[Dm.low_not,h7];rfl),List.append_assoc];rfl)
   obtain ⟨b,o,rfl,-,-⟩:=HR.out.at hkl
   have D1:decide ((k:Int)<0)=false:=dec_f (by omega)
   have i0:(0:Int)≤(k:Int):=Int.natCast_nonneg k
   have ic:(k:Int)≤(c:Int):=by omega
   have il:(k:Int)≤(L.length:Int):=by omega
   have lc:(L.length:Int)≤(c:Int):=by omega
   have ic':k≤c:=by omega
   have hck:¬ c=k:=by omega
   clear hk hy hb P
   go_upto_region 6 with fail
   obtain ⟨t0,t1⟩:=PRE.out
   go_region_held3 (fun W=>W.cell? ⟨gx,0,none⟩ = some (.int .i64 x0)∧W.cell? ⟨gx,1,none⟩ = some (.int .i64 x1))
    (first | with_reducible exact KS.out _ T0.out.drew | with_reducible exact KS.out _ h9 | (go_keep;done))
    (first | (go_at_call 169;refine (put_call w3 x0 x1 (L.take k) (L.drop k) (by rw[List.length_take];omega) (by rw[List.length_drop]) (Lies.Row.take LDem (RW.out _ T0.out) k) (Lies.Row.drop LDem (RW.out _ T0.out) k) (by omega)).mono ?_;rintro e9 w9 ⟨N9,B9,d9,rfl,hN9,hR9,hd9,h9,hw9⟩;have HN9:=Lib.hid hN9;have HW9:=Lib.hid hw9;clear hN9 hw9))
   all_goals go_wp2_with fail
   all_goals go_ret
   all_goals (rw[PK.out];exact ⟨B9,d9,by rw[← HN9.out] <;> rfl,hR9,hd9,XF.out _ h9,fun a ha=>Nat.le_trans XZ.out (HW9.out a ha)⟩)
 ·have P:=Lib.hid (Dm.put_had (x:=⟨x0,x1⟩) h0)
  have E:(Dm.posOf L x0 != 0)=true:=by rw[bne_iff_ne];exact h0
  generalize Dm.posOf L x0=n at CP E
  clear h0
  go_enter Tryz.func153,Tryz.ntmps153
  go_upto_region 1 with fail
  generalize w.alloc (.cells #[.int .i64 x0,.int .i64 x1] 125)=w1 at X0 RX HR CP ⊢
  generalize w.heap.size=gx at RX ⊢
  obtain ⟨t0,t1⟩:=cell_posn RX.out
  go_wp2_with fail
  refine CP.out.mono ?_;rintro e w2 ⟨rfl,hb2⟩
  have B2:=Lib.hid hb2
  have CC:=Lib.hid (pdClone_any A c L w2 (HR.out.below rfl hb2) (by omega))
  clear hb2 t0 t1 CP
  go_wp2_with fail
  refine CC.out.mono ?_;rintro e w3 ⟨B,d,rfl,hR,hd,hb3,hnew⟩
  have XZ:=Lib.hid (fun a (ha:B=some a)=>Nat.le_trans (Nat.le_trans X0.out.size B2.out.size) (hnew a ha))
  have B3:=Lib.hid (X0.out.trans ((B2.out.trans (hb3.mono B2.out.size)).mono X0.out.size))
  have R3:=Lib.hid hR
  clear hb3 CC hR hnew
  go_wp2_with fail
  go_ret
  rw [P.out]
  exact ⟨B,d,rfl,R3.out,hd,B3.out,XZ.out⟩
 --]
open Go.RowKit
namespace Dm
theorem ofSteps_take {p:Pl.Plan} {L:List Wk.Stp} {k:Nat} {y:Wk.Stp} (h:L[k]? = some y):ofSteps p (L.take (k+1))=if 0<Wk.position p y then put (ofSteps p (L.take k)) ⟨y.s,Wk.position p y⟩ else ofSteps p (L.take k):=by
 rw [List.take_add_one,h]
 unfold ofSteps
 rw [List.foldl_append]
 rfl
theorem put_len (L:List Dem) (x:Dem):(put L x).length≤L.length+1:=by
 unfold put
 split
 ·omega
 ·have h:L.takeWhile (low x.pt)++L.dropWhile (low x.pt)=L:=List.takeWhile_append_dropWhile
  have:=congrArg List.length h
  rw [List.length_append] at this
  rw [List.length_append,List.length_cons]
  omega
theorem ofSteps_len (p:Pl.Plan) (L:List Wk.Stp):∀ k,(ofSteps p (L.take k)).length≤k
 | 0=>by rw[List.take_zero];exact Nat.le_refl _
 | k + 1=>by
   have ih:=ofSteps_len p L k
   cases h:L[k]? with
   | none =>
     rw [List.take_add_one,h]
     show (ofSteps p (L.take k++[])).length≤_
     rw [List.append_nil];omega
   | some y =>
     rw [ofSteps_take h]
     split
     ·have:=put_len (ofSteps p (L.take k)) ⟨y.s,Wk.position p y⟩;omega
     ·omega
end Dm
theorem pdOf_new (p:Pl.Plan) (hps:p.secs.length≤24) (A:Option Addr) (c:Nat) (A':Option Addr) (c':Nat) (L:List Wk.Stp) (B:Option Addr) (d:Nat) (w:World) (h:PlanIn w p A A') (hL:LStp.Row w B L) (hl:L.length≤500) :
 Calls Tryz.prog 125 #[planV p A c A' c',.slice B L.length d] w (DemsNew (Dm.ofSteps p L) w):=by
 --[
 have XA:=(Below.refl w.heap.size w).alloc (Nat.le_refl _) (planO p A c A' c')
 have X0:=Lib.hid XA
 have RP:=Lib.hid (heap_alloc_new w (planO p A c A' c'))
 have gp:=(Array.getElem?_eq_some_iff.1 RP.out).1
 have HI:=Lib.hid (h.below XA)
 have HL:=Lib.hid (hL.below rfl XA)
 have KP:=Lib.hid (fun W (hW:Below (w.alloc (planO p A c A' c')).heap.size (w.alloc (planO p A c A' c')) W)=>(row6 ((hW.block _ gp).trans RP.out)).1)
 have T0:=Lib.hid (Below.refl (w.alloc (planO p A c A' c')).heap.size (w.alloc (planO p A c A' c')))
 clear XA h hL
 go_enter Tryz.func125,Tryz.ntmps125
 go_upto_region 2 with fail
 generalize w.alloc (planO p A c A' c')=w1 at X0 RP gp HI HL KP T0 ⊢
 generalize w.heap.size=gq at RP gp KP ⊢
 go_wp2_with fail
 go_loopw [5,8,11] (fun v1 _ v2 w'=>∃ (k:Nat) (B':Option Addr) (d':Nat),k≤L.length∧v1=.slice B' (Dm.ofSteps p (L.take k)).length d'∧v2=.int .i64 k∧LDem.Row w' B' (Dm.ofSteps p (L.take k))∧(Dm.ofSteps p (L.take k)).length≤d'∧Below w1.heap.size w1 w'∧∀ a,B'=some a→w1.heap.size≤a.block) (fun _ _ v2 _=>L.length - (intOf v2).toNat)
 case atStart=>exact ⟨0,none,0,Nat.zero_le _,rfl,rfl,.inl rfl,Nat.le_refl _,T0.out,fun a ha=>by cases ha⟩
 case round =>
  obtain ⟨k,B',d',hk,rfl,rfl,hR,hd,hB,hN⟩:=hrel
  have HNW:=Lib.hid hN
  clear hN
  have HB:=Lib.hid hB
  have HR:=Lib.hid hR
  have HD:=Lib.hid hd
  clear hB hR hd
  have HLN:=Lib.hid (Dm.ofSteps_len p L k)
  by_cases hlt:k<L.length
  ·have hy:=List.getElem?_eq_getElem hlt
   obtain ⟨b1,o1,rfl,g1,on⟩:=(HL.out.below rfl HB.out).at hlt
   generalize L[k]=y at hy on
   obtain ⟨r0,r1,r2⟩:=stp_on on
   rw [show k * LStp.m=k * 3 from rfl] at r0 r1 r2
   have d1:decide ((k:Int)<(L.length:Int))=true:=dec_t (by omega)
   have i0:(0:Int)≤(k:Int):=Int.natCast_nonneg k
   have i1:(k:Int)<(L.length:Int):=by omega
   have HN:=Lib.hid (Dm.ofSteps_take (p:=p) hy)
   obtain ⟨s,f,t⟩:=y
   simp only at r0 r1 r2
   have RX:=Lib.hid (heap_alloc_new wr (.cells #[.int .i64 s,.int .i64 f,.int .i64 t] 123))
   have HX:=Lib.hid (HB.out.alloc HB.out.size (.cells #[.int .i64 s,.int .i64 f,.int .i64 t] 123))
   have HR2:=Lib.hid (HR.out.below rfl ((Below.refl wr.heap.size wr).alloc (Nat.le_refl _) (.cells #[.int .i64 s,.int .i64 f,.int .i64 t] 123)))
   go_upto_region 5 with fail
   generalize wr.alloc (.cells #[.int .i64 s,.int .i64 f,.int .i64 t] 123)=w2 at RX HX HR2 ⊢
   generalize wr.heap.size=gx at RX ⊢
   clear r0 r1 r2
   obtain ⟨⟨t0,t1,t2⟩,-,gx2⟩:=row3 RX.out
   obtain ⟨p0,p1,p2,p3,p4,p5⟩:=KP.out _ HX.out
   have CP:=Lib.hid (pwPosition_any p A c A' c' ⟨s,f,t⟩ w2 (HI.out.below HX.out) hps)
   generalize hpos:Wk.position p ⟨s,f,t⟩ = n at CP HN
   generalize hq:Dm.ofSteps p (L.take k)=M at HR2 HD HLN HN ⊢
   clear hpos hy on hq
   go_wp2_with fail
   refine CP.out.mono ?_;rintro e5 w5 ⟨rfl,h5⟩
   obtain ⟨⟨t0',t1',t2'⟩,-,-⟩:=row3 ((h5.block _ (Array.getElem?_eq_some_iff.1 RX.out).1).trans RX.out)
   have HB5:=Lib.hid (HX.out.trans (h5.mono HX.out.size))
   have HR5:=Lib.hid (HR2.out.below rfl h5)
   clear h5 CP t0 t1 t2 p0 p1 p2 p3 p4 p5
   by_cases hn:0<n
   ·have D:decide (0<n)=true:=dec_t hn
    have HN2:=Lib.hid (show Dm.ofSteps p (L.take (k+1))=Dm.put M ⟨s,n⟩ from by rw[HN.out,if_pos hn])
    have CU:=Lib.hid (pdPut_new B' d' M ⟨s,n⟩ w5 HR5.out (by have:=HLN.out;omega) HD.out)
    clear hn HN
    go_wp2_with fail
    refine CU.out.mono ?_;rintro e6 w6 ⟨B6,d6,rfl,hR6,hd6,hb6,hn6⟩
    have HNW6:=Lib.hid (show ∀ a,B6=some a→w1.heap.size≤a.block from fun a ha=>by
     have:=hn6 a ha
     have:=HB5.out.size
     omega)
    clear hn6
    rw [← HN2.out] at hR6 hd6 ⊢
    have HR6:=Lib.hid hR6
    have HD6:=Lib.hid hd6
    have HB6:=Lib.hid (HB5.out.trans (hb6.mono HB5.out.size))
    generalize hq:(Dm.ofSteps p (List.take (k+1) L)).length=N6
    have HQ6:=Lib.hid hq
    clear hR6 hd6 hb6 CU HN2 hq
    go_wp2_with fail
    go_roundw
    case rel=>exact ⟨k+1,B6,d6,by omega,by rw[HQ6.out],by go_num,HR6.out,HD6.out,HB6.out,HNW6.out⟩
    case measure=>simp [intOf];omega
   ·have D:decide (0<n)=false:=dec_f hn
    have HN2:=Lib.hid (show Dm.ofSteps p (L.take (k+1))=M from by rw[HN.out,if_neg hn])
    clear hn HN
    go_wp2_with fail
    go_roundw
    case rel=>exact ⟨k+1,B',d',by omega,by rw[HN2.out],by go_num,by rw[HN2.out];exact HR5.out,by rw[HN2.out];exact HD.out,HB5.out,HNW.out⟩
    case measure=>simp [intOf];omega
  ·obtain rfl:k=L.length:=by omega
   have d1:decide ((L.length:Int)<(L.length:Int))=false:=dec_f (by omega)
   rw [List.take_length] at HR HD ⊢
   generalize hq:Dm.ofSteps p L=M at HR HD ⊢
   have HQ:=Lib.hid hq
   clear hq
   have HX:=Lib.hid (X0.out.trans (HB.out.mono X0.out.size))
   go_wp2_with fail
   go_ret
   rw [HQ.out]
   exact ⟨B',d',rfl,HR.out,HD.out,HX.out,fun a ha=>Nat.le_trans X0.out.size (HNW.out a ha)⟩
 --]
open Go.RowKit
theorem Lies.Row.kept {α:Type} {E:Lies α} {w w':World} {A:Option Addr} {L:List α} (h:E.Row w A L) (hs:w.heap.size≤w'.heap.size) (hk:L≠[]→∀ a,A=some a→w'.heap[a.block]? = w.heap[a.block]?):E.Row w' A L:=by
 rcases h with h | ⟨b,o,hA,hlt,h⟩
 ·exact .inl h
 ·refine .inr ⟨b,o,hA,by omega,fun k y hy j v hv=>?_⟩
  have e:=hk (fun e=>by rw[e] at hy;simp at hy) _ hA
  rw [← h k y hy j v hv]
  unfold World.cell?
  rw [show w'.heap[b]? = w.heap[b]? from e]
theorem Fl.next_fit {p:Pl.Plan} (hf:Pl.Fit p) {s k q f:Int} (h:Wk.next p s k=(q,f,true)):(0≤q∧q<p.secs.length)∧0≤f∧f≤2:=by
 unfold Wk.next at h
 split at h
 ·exact absurd (congrArg (fun x=>x.2.2) h) (by simp)
 ·rename_i x hx
  split at h
  ·exact absurd (congrArg (fun x=>x.2.2) h) (by simp)
  ·rename_i hg
   obtain ⟨i,e,y,h1,h2,h3,h4,h5⟩:=Lp.endOf_some hx
   simp only [Prod.mk.injEq] at h
   obtain ⟨e1,e2,-⟩:=h
   have h6:=hf.ends i y h4 e h3
   rw [← h5] at h6
   have h7:=h6.2.2 (by omega)
   omega
theorem Lies.Row.lt {α:Type} {E:Lies α} {w:World} {A:Option Addr} {L:List α} (h:E.Row w A L) (hne:L≠[]):∀ a,A=some a→a.block<w.heap.size:=fun a ha=>by
 rcases h with h | ⟨b,o,hA,hlt,-⟩
 ·exact absurd h hne
 ·rw [ha] at hA
  cases hA
  exact hlt
theorem any_drop {L:List Int} {j:Nat} {x:Int} (h:L[j]? = some x) (n:Int):(L.drop j).any (fun y=>decide (y=n))=(decide (x=n) || (L.drop (j+1)).any fun y=>decide (y=n)):=by
 obtain ⟨hj,rfl⟩:=List.getElem?_eq_some_iff.1 h
 rw [List.drop_eq_getElem_cons hj,List.any_cons]
def FlankIs (g:Fl.G) (w:World) (e:Ending) (w':World):Prop:=∃ B1 d1 B2 d2,e=.returned (.tuple #[.slice B1 g.pts.length d1,.slice B2 g.fl.length d2])∧LDem.Row w' B1 g.pts∧g.pts.length≤d1∧LNum.Row w' B2 g.fl∧g.fl.length≤d2∧Below w.heap.size w w'∧(g.pts≠[]→∀ a,B1=some a→w.heap.size≤a.block)∧(g.fl≠[]→∀ a,B2=some a→w.heap.size≤a.block)
namespace Fl
def upTo (p:Pl.Plan) (own:List Wk.Stp) (k:Nat):G:=(own.take k).foldl (one p own) ⟨Dm.ofSteps p own,[],[]⟩
theorem upTo_next {p:Pl.Plan} {own:List Wk.Stp} {k:Nat} {y:Wk.Stp} (h:own[k]? = some y):upTo p own (k+1)=one p own (upTo p own k) y:=by
 unfold upTo
 rw [List.take_add_one,h,List.foldl_append];rfl
theorem upTo_all (p:Pl.Plan) (own:List Wk.Stp):upTo p own own.length=of p own:=by
 unfold upTo of
 rw [List.take_length]
theorem one_len (p:Pl.Plan) (own:List Wk.Stp) (x:Wk.Stp) (g:G):(one p own g x).pts.length≤g.pts.length+8∧(one p own g x).fl.length≤g.fl.length+8:=by
 unfold one
 split
 ·have ha:=on_adds p own 9 x.s (3 - Wk.position p x) { g with seen:=[] }
  have h3:=ha.most (Nat.zero_le _)
  have h4:=ha.pts
  have h5:=ha.fl
  simp only [List.length_nil,Nat.add_zero] at h4 h5
  exact ⟨by omega,by omega⟩
 ·exact ⟨by omega,by omega⟩
theorem upTo_len (p:Pl.Plan) (own:List Wk.Stp):∀ k,k≤own.length→(upTo p own k).pts.length≤own.length+8 * k∧(upTo p own k).fl.length≤8 * k
 | 0,_=>by
   have:=Dm.ofSteps_len p own own.length
   rw [List.take_length] at this
   exact ⟨this,Nat.le_refl _⟩
 | k+1,h=>by
   rw [upTo_next (List.getElem?_eq_getElem (show k<own.length by omega))]
   have h1:=upTo_len p own k (by omega)
   have h2:=one_len p own (own[k]'(by omega)) (upTo p own k)
   omega
end Fl
end Go.Proofs.YtncphjodaklleaaGreat
