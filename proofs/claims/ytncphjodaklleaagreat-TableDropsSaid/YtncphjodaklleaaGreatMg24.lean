/-
 Texts of this claim, merged: TbRefE, BsPr, BsPrB, BsPrC, BsRef, BsRefB.
-/
import Derived.Test.YtncphjodaklleaaGreatMg21
import Derived.Test.YtncphjodaklleaaGreatMg23
import Derived.Deep.CutRange
import Derived.Deep.RegionHeld3
import Derived.Deep.RegionLaw
import Derived.Deep.RegionWith
import Derived.Lib.IndexLaws
import Derived.Lib.MinMax
import Derived.Shelf.Spec.TrailingZeros
set_option maxHeartbeats 16000000
set_option maxRecDepth 100000
namespace Go.Proofs.YtncphjodaklleaaGreat
open Lib (hid)
open Go.RowKit
theorem rtb_within (A:Option Addr) (c:Nat) (L:List Wk.Stp) (n:Nat) (hn:L.length=n) (s:Int) (w:World) (h:LStp.Row w A L) (hl:n≤1000000) :
 Calls Tryz.prog 101 #[.slice A n c,.int .i64 s] w fun e w'=>e=.returned (.bool (Wk.within L s))∧w'=w:=by
 subst hn
 exact (rwWithin_any A c L s w h hl).mono fun _ _ h=>⟨h.1,h.2.symm⟩
theorem stp_box {w:World} {g:Nat} {x:Wk.Stp} (h:w.heap[g]? = some (stpO x)):(w.cell? ⟨g,0,none⟩ = some (.int .i64 x.s)∧w.cell? ⟨g,1,none⟩ = some (.int .i64 x.f)∧w.cell? ⟨g,2,none⟩ = some (.int .i64 x.t))∧g<w.heap.size :=
 ⟨⟨cell_of_row w g 0 _ _ _ h,cell_of_row w g 1 _ _ _ h,cell_of_row w g 2 _ _ _ h⟩,(Array.getElem?_eq_some_iff.1 h).1⟩
theorem rtbSteps_any (m:TableM) (A:Option Addr) (c n:Nat) (l:List Wk.Stp) (hn:l.length=n) (A':Option Addr) (c' n':Nat) (o':List Wk.Stp) (hn':o'.length=n') (w:World) (h1:LBo.Row w m.A1 m.t.points) (h:LStp.Row w A l) (hl:n≤1000000) (hc:n≤c) (h':LStp.Row w A' o') (hl':n'≤1000000) (_hpl:m.t.points.length≤1000000) :
 Calls Tryz.prog 57 #[tbV m,.slice A n c,.slice A' n' c'] w (OneIs (.bool (Tb.stepsOk m.t.points l o')) w):=by
 --[
 subst hn
 have XX:=(Below.refl w.heap.size w).alloc (Nat.le_refl _) (tbO m)
 have X:=hid XX
 have HO:=hid (h'.below rfl XX)
 have HR:=hid (h.below rfl XX)
 have HP1:=hid (h1.below rfl XX)
 have RP:=hid (heap_alloc_new w (tbO m))
 have HC:=hid hc
 generalize hq:Tb.stepsOk m.t.points l o'=q
 have HQ:=hid (show (Tb.ups (Tb.stepOk m.t.points l o') 0 l.length && decide ((l.length:Int)≤16))=q from hq)
 clear h h1 h' hq XX hc
 go_enter Tryz.func57,Tryz.ntmps57
 go_upto_region 1 with fail
 generalize w.alloc (tbO m)=w1 at X HO HR HP1 RP ⊢
 generalize hg:w.heap.size=g at RP ⊢
 have gl:=(tb_row RP.out).2
 have KB:=hid (fun W (hW:Below w1.heap.size w1 W)=>(tb_row ((hW.block _ gl).trans RP.out)).1.2.1)
 have B0:=hid (Below.refl w1.heap.size w1)
 clear gl hg
 go_wp2_with fail
 go_loopw [7,8,9,10] (fun v _ _ _ w'=>∃ j:Nat,j≤l.length∧v=.int .i64 j∧(Tb.ups (Tb.stepOk m.t.points l o') j l.length && decide ((l.length:Int)≤16))=q∧Below w1.heap.size w1 w') (fun v _ _ _ _=>l.length - (intOf v).toNat)
 case atStart=>exact ⟨0,Nat.zero_le _,rfl,HQ.out,B0.out⟩
 case round =>
  clear HQ
  obtain ⟨j,hj,rfl,hp,hb⟩:=hrel
  have HB1:=hid hb
  by_cases hlt:j<l.length
  ·have hx := List.getElem?_eq_getElem hlt
   have d1:decide ((j:Int)<(l.length:Int))=true:=dec_t (by omega)
   have j0:(0:Int)≤(j:Int):=Int.natCast_nonneg j
   have j1:(j:Int)<(l.length:Int):=by omega
   rw [Tb.ups_step _ hlt] at hp
   obtain ⟨b,o,rfl,hbb,on⟩:=(HR.out.below rfl hb).at hlt
   have HK:=hid (show Tb.stepOk m.t.points l o' j=(decide ((0:Int)≤l[j].s) && decide (l[j].s<(m.t.points.length:Int)) && !Wk.within (l.take j) l[j].s && !Wk.within o' l[j].s && Tb.goesOk m.t.points l[j]) from by
    unfold Tb.stepOk
    rw [Tb.getD_at hx])
   generalize l[j]=x at on HK
   obtain ⟨c0,c1,c2⟩:=stp_on on
   rw [show j * LStp.m=j * 3 from rfl] at c0 c1 c2
   have XB:=(Below.refl wr.heap.size wr).alloc (Nat.le_refl _) (stpO x)
   have BX1:=hid (hb.trans (XB.mono hb.size))
   have BX:=hid (X.out.trans ((hb.trans (XB.mono hb.size)).mono X.out.size))
   have RX:=hid (heap_alloc_new wr (stpO x))
   have HP:=hid hp
   have htl:(l.take j).length=j:=by rw[List.length_take];omega
   have HRT:=hid (Lies.Row.take LStp (HR.out.below rfl hb) j)
   have HOB:=hid (HO.out.below rfl hb)
   have HPB:=hid (HP1.out.below rfl hb)
   have hjc:j≤c:=by have:=HC.out;omega
   have s1:(j:Int)≤(c:Int):=by omega
   have s2:(0:Int)≤(c:Int):=Int.natCast_nonneg c
   clear hp on hx
   go_upto_region 5 with fail
   generalize wr.alloc (stpO x)=w2 at BX1 BX RX XB ⊢
   generalize hgx:wr.heap.size=gx at RX ⊢
   obtain ⟨⟨x0,x1,x2⟩,gxl⟩:=stp_box RX.out
   have kb:=KB.out _ BX1.out
   have V0:=hid (Below.refl w2.heap.size w2)
   have C1:=hid (fun W (hW:Below w2.heap.size w2 W)=>rtb_within (some ⟨b,o,none⟩) c (l.take j) j htl x.s W ((HRT.out.below rfl XB).below rfl hW) (by omega))
   have C2:=hid (fun W (hW:Below w2.heap.size w2 W)=>rtb_within A' c' o' n' hn' x.s W ((HOB.out.below rfl XB).below rfl hW) hl')
   have HPB2:=hid (HPB.out.below rfl XB)
   obtain ⟨xs,xf,xt⟩:=x
   simp only at x0 x1 x2 HK C1 C2
   generalize Wk.within (l.take j) xs=z1 at C1 HK
   generalize Wk.within o' xs=z2 at C2 HK
   clear c0 c1 c2 hb hbb gxl XB HRT HOB HPB htl
   by_cases h0:xs<0
   ·have D0:decide (xs<0)=true:=dec_t h0
    have HF:=hid (show false=q from by have:=HP.out;rw[HK.out,dec_f (p:=0≤xs) (by omega)] at this;exact this)
    clear h0 HP HK
    go_quiet (fail)
    go_wp2_with fail
    go_ret
    exact ⟨by rw[← HF.out] <;> rfl,below_drewN BX.out _⟩
   have D0:decide (xs<0)=false:=dec_f h0
   by_cases h1:(m.t.points.length:Int)≤xs
   ·have D1:decide ((m.t.points.length:Int)≤xs)=true:=dec_t h1
    have HF:=hid (show false=q from by have:=HP.out;rw[HK.out,dec_t (p:=0≤xs) (by omega),dec_f (p:=xs<(m.t.points.length:Int)) (by omega)] at this;exact this)
    clear h0 h1 HP HK
    go_quiet (fail)
    go_wp2_with fail
    go_ret
    exact ⟨by rw[← HF.out] <;> rfl,below_drewN BX.out _⟩
   have D1:decide ((m.t.points.length:Int)≤xs)=false:=dec_f h1
   obtain ⟨k,rfl⟩:∃ k:Nat,xs=(k:Int):=⟨xs.toNat,by omega⟩
   have hkp:k<m.t.points.length:=by omega
   have D1':decide (m.t.points.length≤k)=false:=dec_f (by omega)
   have k0:(0:Int)≤(k:Int):=Int.natCast_nonneg k
   have k1:(k:Int)<(m.t.points.length:Int):=by omega
   have HK1:=hid (show Tb.stepOk m.t.points l o' j=(!z1 && !z2 && Tb.goesOk m.t.points ⟨(k:Int),xf,xt⟩) from by
    rw [HK.out,dec_t (p:=0≤(k:Int)) (by omega),dec_t k1];rfl)
   clear h0 h1 HK
   cases z1 with
   | true =>
     have HF:=hid (show false=q from by have:=HP.out;rw[HK1.out] at this;exact this)
     clear HP HK1
     go_quiet (first
      | (go_at_call 101;with_reducible exact Calls.quiet_of_same (C1.out _ (below_drewN V0.out _)))
      | (go_at_call 101;with_reducible exact Calls.quiet_of_same (C2.out _ (below_drewN V0.out _))))
     go_wp2_with fail
     go_ret
     exact ⟨by rw[← HF.out] <;> rfl,below_drewN BX.out _⟩
   | false =>
     cases z2 with
     | true =>
       have HF:=hid (show false=q from by have:=HP.out;rw[HK1.out] at this;exact this)
       clear HP HK1
       go_quiet (first
       | (go_at_call 101;with_reducible exact Calls.quiet_of_same (C1.out _ (below_drewN V0.out _)))
       | (go_at_call 101;with_reducible exact Calls.quiet_of_same (C2.out _ (below_drewN V0.out _))))
       go_wp2_with fail
       go_ret
       exact ⟨by rw[← HF.out] <;> rfl,below_drewN BX.out _⟩
     | false =>
       go_quiet (first
       | (go_at_call 101;with_reducible exact Calls.quiet_of_same (C1.out _ (below_drewN V0.out _)))
       | (go_at_call 101;with_reducible exact Calls.quiet_of_same (C2.out _ (below_drewN V0.out _))))
       have HK2:=hid (show (((min xf xt == 0) && ((max xf xt == 1) || ((max xf xt == 2) && m.t.points.getD k false))) && Tb.ups (Tb.stepOk m.t.points l o') (j+1) l.length && decide ((l.length:Int)≤16))=q from by
        have:=HP.out
        rw [HK1.out] at this
        unfold Tb.goesOk at this
        rwa [Int.toNat_natCast] at this)
       clear HP HK1
       go_upto_region 7 with fail
       go_quiet (fail)
       generalize max xf xt=hi at HK2 ⊢
       generalize min xf xt=lo at HK2 ⊢
       obtain ⟨bp,op,hA1,hbp,cp⟩:=bo_at HPB2.out hkp
       rw [hA1] at kb
       generalize m.t.points.getD k false=z at cp HK2
       clear hA1 hkp hbp
       by_cases e0:lo=0
       ·have E0:(lo != 0)=false:=by rw[bne_eq_false_iff_eq];exact e0
        have HK3:=hid (show (((hi == 1) || ((hi == 2) && z)) && Tb.ups (Tb.stepOk m.t.points l o') (j+1) l.length && decide ((l.length:Int)≤16))=q from by have:=HK2.out;rwa [beq_iff_eq.2 e0,Bool.true_and] at this)
        clear e0 HK2
        by_cases e1:hi=1
        ·have E1:(hi != 1)=false:=by rw[bne_eq_false_iff_eq];exact e1
         have HT:=hid (show (Tb.ups (Tb.stepOk m.t.points l o') (j+1) l.length && decide ((l.length:Int)≤16))=q from by have:=HK3.out;rwa [beq_iff_eq.2 e1,Bool.true_or,Bool.true_and] at this)
         clear e1 HK3
         go_wp2_with fail
         go_roundw
         case rel=>exact ⟨j+1,by omega,by go_num,HT.out,below_drewN BX1.out _⟩
         case measure=>simp [intOf];omega
        ·have E1:(hi != 1)=true:=by rw[bne_iff_ne];exact e1
         by_cases e2:hi=2
         ·have E2:(hi != 2)=false:=by rw[bne_eq_false_iff_eq];exact e2
          cases z with
          | true =>
            have HT:=hid (show (Tb.ups (Tb.stepOk m.t.points l o') (j+1) l.length && decide ((l.length:Int)≤16))=q from by have:=HK3.out;rwa [beq_eq_false_iff_ne.2 e1,beq_iff_eq.2 e2,Bool.false_or,Bool.true_and,Bool.true_and] at this)
            clear e1 e2 HK3
            go_wp2_with fail
            go_roundw
            case rel=>exact ⟨j+1,by omega,by go_num,HT.out,below_drewN BX1.out _⟩
            case measure=>simp [intOf];omega
          | false =>
            have HF:=hid (show false=q from by have:=HK3.out;rwa [beq_eq_false_iff_ne.2 e1,beq_iff_eq.2 e2,Bool.false_or,Bool.and_false,Bool.false_and,Bool.false_and] at this)
            clear e1 e2 HK3
            go_wp2_with fail
            go_ret
            exact ⟨by rw[← HF.out] <;> rfl,below_drewN BX.out _⟩
         ·have E2:(hi != 2)=true:=by rw[bne_iff_ne];exact e2
          have HF:=hid (show false=q from by have:=HK3.out;rwa [beq_eq_false_iff_ne.2 e1,beq_eq_false_iff_ne.2 e2,Bool.false_or,Bool.false_and,Bool.false_and,Bool.false_and] at this)
          clear e1 e2 HK3
          go_wp2_with fail
          go_ret
          exact ⟨by rw[← HF.out] <;> rfl,below_drewN BX.out _⟩
       ·have E0:(lo != 0)=true:=by rw[bne_iff_ne];exact e0
        have HF:=hid (show false=q from by have:=HK2.out;rwa [beq_eq_false_iff_ne.2 e0,Bool.false_and,Bool.false_and,Bool.false_and] at this)
        clear e0 HK2
        go_wp2_with fail
        go_ret
        exact ⟨by rw[← HF.out] <;> rfl,below_drewN BX.out _⟩
  ·obtain rfl:j=l.length:=by omega
   have d1:decide ((l.length:Int)<(l.length:Int))=false:=dec_f (by omega)
   rw [Tb.ups_end,Bool.true_and] at hp
   have HP:=hid hp
   have HB:=hid (X.out.trans (hb.mono X.out.size))
   clear hp hb
   go_wp2_with fail
   go_ret
   exact ⟨by rw[← HP.out] <;> rfl,HB.out⟩
 --]
theorem bpBit_any (k:Nat) (w:World):Calls Tryz.prog 89 #[.int .i64 k] w fun e w'=>e=.returned (.int .u32 ((2 ^ (k % 32):Nat):Int))∧w'=w:=by
 --[
 have Q:=hid (Bs.shl_mod (k % 32) (Nat.mod_lt _ (by decide)))
 have q1:(k:Int).tmod 32=((k % 32:Nat):Int):=by rw[Int.tmod_eq_emod_of_nonneg (Int.natCast_nonneg k)];omega
 have i0:(0:Int)≤((k % 32:Nat):Int):=Int.natCast_nonneg _
 go_enter Tryz.func89,Tryz.ntmps89
 go_wp2_with fail
 go_ret
 exact ⟨by rw[← Q.out] <;> rfl,rfl⟩
 --]
theorem bpFits_any (A:Option Addr) (c:Nat) (L:List Nat) (n:Int) (w:World) (h0:-9223372036854775808≤n∧n≤9223372036854775807) (_hl:L.length≤1000000000) :
 Calls Tryz.prog 88 #[.slice A L.length c,.int .i64 n] w fun e w'=>e=.returned (.bool (Bs.fits L n))∧w'=w:=by
 --[
 by_cases hn:0≤n
 ·obtain ⟨k,rfl⟩:∃ k:Nat,n=(k:Int):=⟨n.toNat,by omega⟩
  have d0:decide ((0:Int)≤(k:Int))=true:=dec_t hn
  have q:IntKind.i64.wrap ((k:Int).tdiv 32)=((k / 32:Nat):Int):=by
   rw [Int.tdiv_eq_ediv_of_nonneg hn,IntWalk.i64_in _ (by omega)];omega
  have E:Bs.fits L (k:Int)=decide (((k / 32:Nat):Int)<(L.length:Int)):=by
   unfold Bs.fits
   rw [d0,Bool.true_and,Int.toNat_natCast]
   congr 1
   rw [eq_iff_iff];omega
  have HE:=hid E
  clear E
  go_enter Tryz.func88,Tryz.ntmps88
  go_wp2_with fail
  go_ret
  exact ⟨by rw[HE.out] <;> rfl,rfl⟩
 ·have d0:decide ((0:Int)≤n)=false:=dec_f hn
  have HE:=hid (show Bs.fits L n=false from by unfold Bs.fits;rw[d0];rfl)
  clear hn
  go_enter Tryz.func88,Tryz.ntmps88
  go_wp2_with fail
  go_ret
  exact ⟨by rw[HE.out] <;> rfl,rfl⟩
 --]
theorem own_made (w:World) (L:List Nat) (hl:L.length≤1000000000):(w.alloc (.cells (LWd.all L).toArray 72)).ownsRow w.heap.size 72 LWd.m (.slice (some ⟨w.heap.size,0,none⟩) L.length L.length) L.length (LWd.all L):=by
 have e:(LWd.all L).length=L.length * LWd.m:=LWd.all_len L
 refine ⟨e,.inr ⟨w.heap.size,L.length,_,rfl,Nat.le_refl _,heap_alloc_new _ _,Nat.le_refl _,by unfold maxLen;omega,by simpa using e,?_⟩⟩
 rw [← e]
 simp
theorem bpNew_any (n:Int) (w:World) (h0:-9223372036854775808≤n∧n≤1000000000):Calls Tryz.prog 87 #[.int .i64 n] w (SetOwn (Bs.new n) w):=by
 --[
 by_cases hn:n<1
 ·have D0:decide (n<1)=true:=dec_t hn
  have E:Bs.new n=[]:=if_pos hn
  rw [E]
  clear hn
  go_enter Tryz.func87,Tryz.ntmps87
  go_wp2_with fail
  go_ret
  exact ⟨_,rfl,⟨rfl,.inl ⟨rfl,rfl⟩⟩,Below.refl _ _⟩
 have D0:decide (n<1)=false:=dec_f hn
 have E:Bs.new n=List.replicate ((n - 1).toNat / 32+1) 0:=if_neg hn
 rw [E]
 have q1:IntKind.i64.wrap (n - 1)=n - 1:=IntWalk.i64_in _ (by omega)
 have q2:IntKind.i64.wrap ((n - 1).tdiv 32)=(((n - 1).toNat / 32:Nat):Int):=by
  rw [Int.tdiv_eq_ediv_of_nonneg (by omega),IntWalk.i64_in _ (by omega)];omega
 have q3:IntKind.i64.wrap ((((n - 1).toNat / 32:Nat):Int)+1)=(((n - 1).toNat / 32+1:Nat):Int):=by
  rw [IntWalk.i64_in _ (by omega)];omega
 have hM:(n - 1).toNat / 32+1≤31250001:=by omega
 generalize hm:(n - 1).toNat / 32=m at q2 q3 hM ⊢
 generalize m+1=M at q3 hM ⊢
 have D1:decide ((536870911:Int)<(M:Int))=false:=dec_f (by omega)
 have hmk:=run_make_k LWd (P:=Tryz.prog) 0 67 72 (.int .u32 0) 4 Tryz.underlying67 infoWd rfl .i64 .i64 M (by omega) (by omega)
 have HB:=hid ((Below.refl w.heap.size w).alloc (Nat.le_refl _) (.cells (LWd.all (List.replicate M 0)).toArray 72))
 have HO:=hid (own_made w (List.replicate M 0) (by rw[List.length_replicate];omega))
 rw [List.length_replicate] at HO
 clear hn E hm h0
 go_enter Tryz.func87,Tryz.ntmps87
 go_wp2_with fail
 go_ret
 exact ⟨_,rfl,by rw[List.length_replicate];exact HO.out,HB.out⟩
 --]
theorem Bs.put_at {L:List Nat} {k:Nat} (h:k / 32<L.length):Bs.put L (k:Int)=L.set (k / 32) (L.getD (k / 32) 0 ||| 2 ^ (k % 32)):=by
 unfold Bs.put
 rw [if_pos (Bs.fits_iff.2 ⟨Int.natCast_nonneg k,by rw[Int.toNat_natCast];exact h⟩),Int.toNat_natCast]
theorem bpOf_any (n:Int) (A:Option Addr) (c:Nat) (l:List Int) (w:World) (h0:-9223372036854775808≤n∧n≤1000000) (h:LNum.Row w A l) (hl:l.length≤1000000) (hx:∀ x∈l,-9223372036854775808≤x∧x≤9223372036854775807) :
 Calls Tryz.prog 49 #[.int .i64 n,.slice A l.length c] w (SetOwn (Bs.ofL n l) w):=by
 --[
 have CN:=hid (bpNew_any n w (by omega))
 have HR:=hid h
 have HX:=hid hx
 have HLN:=hid (Bs.new_len n)
 clear h hx
 go_enter Tryz.func49,Tryz.ntmps49
 go_wp2_with fail
 refine CN.out.mono ?_;rintro e w1 ⟨v,rfl,ho,hb⟩
 have HO:=hid ho
 have HB:=hid hb
 clear hb ho CN
 go_wp2_with fail
 go_loopw [7,12] (fun _ v2 w'=>∃ k:Nat,k≤l.length∧v2=.int .i64 k∧w'.ownsRow w.heap.size 72 LWd.m v (Bs.ofL n (l.take k)).length (LWd.all (Bs.ofL n (l.take k)))∧Below w.heap.size w w') (fun _ v2 _=>l.length - (intOf v2).toNat)
 case atStart=>exact ⟨0,Nat.zero_le _,rfl,HO.out,HB.out⟩
 case round =>
  obtain ⟨k,hk,rfl,ho,hb⟩:=hrel
  have HB1:=hid hb
  have HO1:=hid ho
  by_cases hlt:k<l.length
  ·have hy:=List.getElem?_eq_getElem hlt
   obtain ⟨hy1,hy2⟩:=HX.out _ (List.getElem_mem hlt)
   obtain ⟨b1,o1,rfl,g1,on⟩:=(HR.out.below rfl hb).at hlt
   have HT:=hid (Bs.ofL_take (n:=n) hy)
   generalize l[k]=x at hy hy1 hy2 on HT
   have c0:=num_on on
   rw [show k * LNum.m=k from Nat.mul_one k] at c0
   have d1:decide ((k:Int)<(l.length:Int))=true:=dec_t (by omega)
   have i0:(0:Int)≤(k:Int):=Int.natCast_nonneg k
   have i1:(k:Int)<(l.length:Int):=by omega
   have hW:=Bs.W32.ofL n (l.take k)
   have hML:=Bs.ofL_len n (l.take k)
   have hM1:(Bs.ofL n (l.take k)).length≤1000000:=by
    have e:=HLN.out
    rw [hML,e]
    split <;> omega
   generalize Bs.ofL n (l.take k)=M at ho HO1 HT hW hML hM1
   clear hy on hb
   by_cases hxn:x<n
   ·have D2:decide (x<n)=true:=dec_t hxn
    rw [if_pos hxn] at HT
    by_cases hf:Bs.fits M x=true
    ·obtain ⟨hn,hq⟩:=Bs.fits_iff.1 hf
     obtain ⟨j,rfl⟩:∃ j:Nat,x=(j:Int):=⟨x.toNat,by omega⟩
     rw [Int.toNat_natCast] at hq
     rcases own_cases ho with ⟨-,rfl⟩ | ⟨g,cap,rfl,hg,hg2⟩
     ·exact absurd hq (by simp)
     obtain ⟨hc,hfz⟩:=own_at ho hq
     have hv:=hW.at (j / 32)
     have CF:=hid (fun W=>bpFits_any (some ⟨g,0,none⟩) cap M (j:Int) W (by omega) (by omega))
     rw [hf] at CF
     have CB:=hid (fun W=>bpBit_any j W)
     rw [Bs.put_at hq] at HT
     have HG:=hid hg
     have q:IntKind.i64.wrap ((j:Int).tdiv 32)=((j / 32:Nat):Int):=by
      rw [Int.tdiv_eq_ediv_of_nonneg hn,IntWalk.i64_in _ (by omega)];omega
     have q2:(j:Int) / 32=((j / 32:Nat):Int):=by omega
     have q3:IntKind.i64.wrap ((j:Int) / 32)=((j / 32:Nat):Int):=by rw[IntWalk.i64_in _ (by omega)];omega
     have q4:IntKind.i64.wrap ((j / 32:Nat):Int)=((j / 32:Nat):Int):=IntWalk.i64_in _ (by omega)
     have e0:(0:Int)≤((j / 32:Nat):Int):=Int.natCast_nonneg _
     have e1:((j / 32:Nat):Int)<(M.length:Int):=by omega
     have hp2:(2:Nat) ^ (j % 32)<2 ^ 32:=Nat.pow_lt_pow_right (by decide) (Nat.mod_lt _ (by decide))
     have e:=u32_or_nat (M.getD (j / 32) 0) (2 ^ (j % 32)) hv hp2
     generalize hyy:M.getD (j / 32) 0 ||| 2 ^ (j % 32)=y at e HT
     generalize M.getD (j / 32) 0=u at hc hv e hyy
     have HW:=hid (fun (W:World) (hW:W.heap=wr.heap)=>(own_set (w:=W) (by unfold World.ownsRow at ho ⊢;rw[hW];exact ho) (j / 32) y))
     generalize j / 32=i at q q2 q3 q4 e0 e1 hc hfz HT HW
     generalize ((2 ^ (j % 32):Nat):Int)=z at CB e
     clear hf hq hn ho hyy hp2 hv hxn hW hML hM1 hy1 hy2
     go_upto_region 5 with fail
     go_wp2_with fail
     refine (CF.out _).mono ?_;rintro e2 z2 ⟨rfl,rfl⟩
     go_upto_region 6 with fail
     go_region_with (first
      | (go_at_call 89;(with_reducible refine (CB.out _).mono ?_);rintro e2 z3 ⟨rfl,rfl⟩))
     all_goals go_wp2_with fail
     all_goals go_roundw
     all_goals first
      | exact ⟨k+1,by omega,by go_num,by rw[HT.out];exact (HW.out _ rfl).drew,(HB1.out.setCell (p:=⟨g,i,none⟩) HG.out _).drew⟩
      | (simp [intOf];omega)
    ·have hf2:Bs.fits M x=false:=by simpa using hf
     have HP:=hid (show Bs.put M x=M from if_neg hf)
     rw [HP.out] at HT
     obtain ⟨-,B,d,rfl,hd,hR⟩:=Lies.Row.of_own (E:=LWd) ho
     have CF:=hid (fun W=>bpFits_any B d M x W (by omega) (by omega))
     rw [hf2] at CF
     clear hf hf2 ho hd hR hxn hW hML hM1 hy1 hy2 HP
     go_upto_region 5 with fail
     go_wp2_with fail
     refine (CF.out _).mono ?_;rintro e2 z2 ⟨rfl,rfl⟩
     go_wp2_with fail
     go_roundw
     case rel=>exact ⟨k+1,by omega,by go_num,by rw[HT.out];exact HO1.out,HB1.out⟩
     case measure=>simp [intOf];omega
   ·have D2:decide (x<n)=false:=dec_f hxn
    rw [if_neg hxn] at HT
    clear hxn ho hW hML hM1 hy1 hy2
    go_wp2_with fail
    go_roundw
    case rel=>exact ⟨k+1,by omega,by go_num,by rw[HT.out];exact HO1.out,HB1.out⟩
    case measure=>simp [intOf];omega
  ·obtain rfl:k=l.length:=by omega
   have d1:decide ((l.length:Int)<(l.length:Int))=false:=dec_f (by omega)
   rw [List.take_length] at HO1
   clear hb ho
   go_wp2_with fail
   go_ret
   exact ⟨_,rfl,HO1.out,HB1.out⟩
 --]
theorem num_row1 (w:World) (y:Int) {g:Nat} (hg:w.heap.size=g):LNum.Row (w.alloc (.cells #[.int .i64 y] 3)) (some ⟨g,0,none⟩) [y]:=hg ▸ Lies.Row.fresh (E:=LNum) w [y] 3
def NumsYes (L:List Int) (w:World) (e:Ending) (w':World):Prop:=∃ B d,e=.returned (.slice B L.length d)∧LNum.Row w' B L∧L.length≤d∧Below w.heap.size w w'
theorem NumsYes.of_own {L:List Int} {w w':World} {base n:Nat} {v:Value} (h:w'.ownsRow base 3 LNum.m v n (LNum.all L)) (hn:n=L.length) (hb:Below w.heap.size w w'):NumsYes L w (.returned v) w':=by
 subst hn
 obtain ⟨-,B,d,rfl,hc,hR⟩:=Lies.Row.of_own (E:=LNum) h
 exact ⟨B,d,rfl,hR,hc,hb⟩
theorem infoNumB:(Tryz.prog.info? 3).map (fun i=>(i.zero,i.size,i.bytes))=some (some (.int .i64 0),1,8):=by kernel_rfl
theorem rbNew_any (n:Int) (w:World) (h0:-9223372036854775808≤n∧n≤1000000000):Calls Tryz.prog 38 #[.int .i64 n] w (SetOwn (Bs.new n) w):=by
 --[
 by_cases hn:n<1
 ·have D0:decide (n≤0)=true:=dec_t (by omega)
  have E:Bs.new n=[]:=if_pos hn
  rw [E]
  clear hn
  go_enter Tryz.func38,Tryz.ntmps38
  go_wp2_with fail
  go_ret
  exact ⟨_,rfl,⟨rfl,.inl ⟨rfl,rfl⟩⟩,Below.refl _ _⟩
 have D0:decide (n≤0)=false:=dec_f (by omega)
 have E:Bs.new n=List.replicate ((n - 1).toNat / 32+1) 0:=if_neg hn
 rw [E]
 have q1:IntKind.i64.wrap (n - 1)=n - 1:=IntWalk.i64_in _ (by omega)
 have q2:IntKind.i64.wrap ((n - 1).tdiv 32)=(((n - 1).toNat / 32:Nat):Int):=by
  rw [Int.tdiv_eq_ediv_of_nonneg (by omega),IntWalk.i64_in _ (by omega)];omega
 have q3:IntKind.i64.wrap ((((n - 1).toNat / 32:Nat):Int)+1)=(((n - 1).toNat / 32+1:Nat):Int):=by
  rw [IntWalk.i64_in _ (by omega)];omega
 have hM:(n - 1).toNat / 32+1≤31250001:=by omega
 generalize hm:(n - 1).toNat / 32=m at q2 q3 hM ⊢
 generalize m+1=M at q3 hM ⊢
 have hmk:=run_make_k LWd (P:=Tryz.prog) 0 67 72 (.int .u32 0) 4 Tryz.underlying67 infoWd rfl .i64 .i64 M (by omega) (by omega)
 have HB:=hid ((Below.refl w.heap.size w).alloc (Nat.le_refl _) (.cells (LWd.all (List.replicate M 0)).toArray 72))
 have HO:=hid (own_made w (List.replicate M 0) (by rw[List.length_replicate];omega))
 rw [List.length_replicate] at HO
 clear hn E hm h0
 go_enter Tryz.func38,Tryz.ntmps38
 go_wp2_with fail
 go_ret
 exact ⟨_,rfl,by rw[List.length_replicate];exact HO.out,HB.out⟩
 --]
theorem rbWith_any (A:Option Addr) (c:Nat) (L:List Nat) (n:Int) (w:World) (h0:-9223372036854775808≤n∧n≤9223372036854775807) (h:LWd.Row w A L) (hw:Bs.W32 L) (hl:L.length≤1000000) :
 Calls Tryz.prog 40 #[.slice A L.length c,.int .i64 n] w (SetOwn (Bs.put L n) w):=by
 --[
 have HB:=hid ((Below.refl w.heap.size w).alloc (Nat.le_refl _) (.cells #[] 72))
 have HR:=hid (h.below rfl HB.out)
 have HO:=hid (ownwd_empty w rfl (Nat.le_refl _))
 clear h
 obtain ⟨i0,hi,hz0,hz1,hz2⟩:=info_parts infoWd
 go_enter Tryz.func40,Tryz.ntmps40
 go_upto_region 1 with fail
 go_cut [5] from 6 to 32 (fun v5 w'=>w'.ownsRow w.heap.size 72 LWd.m v5 L.length (LWd.all L)∧Below w.heap.size w w')
 case first =>
  go_wp2_with (at_builtin;refine wpList_append_at LWd rfl (.tmp 6) (.tmp 7) 67 rfl w.heap.size 72 i0 _ 4 Tryz.underlying67 hi hz0 hz1 hz2 rfl (.slice (some ⟨w.heap.size,0,none⟩) 0 0) 0 [] rfl HO.out A L.length c L rfl rfl HR.out (by omega) (by omega) (by simp) ?_;intro v1 w1 hown hg)
  have HB1:=hid (Below.grown HB.out hg (by simp) (fun k hk=>by cases hk;exact Nat.le_refl _))
  rw [Nat.zero_add,List.nil_append] at hown
  go_meet
  exact ⟨hown,HB1.out⟩
 case rest =>
  obtain ⟨ho,hb⟩:=hcut
  have HO1:=hid ho
  have HB1:=hid hb
  clear hb hi hz0 hz1 hz2
  by_cases hn:0≤n
  case neg =>
   have d0:decide ((0:Int)≤n)=false:=dec_f hn
   have HP:=hid (show Bs.put L n=L from if_neg (by unfold Bs.fits;rw[d0];exact Bool.false_ne_true))
   clear hn ho
   go_wp2_with fail
   go_ret
   exact ⟨_,rfl,by rw[HP.out];exact HO1.out,HB1.out⟩
  case pos =>
   obtain ⟨k,rfl⟩:∃ k:Nat,n=(k:Int):=⟨n.toNat,by omega⟩
   have d0:decide ((0:Int)≤(k:Int))=true:=dec_t hn
   have q:IntKind.i64.wrap ((k:Int).tdiv 32)=((k / 32:Nat):Int):=by
    rw [Int.tdiv_eq_ediv_of_nonneg hn,IntWalk.i64_in _ (by omega)];omega
   have q2:(k:Int) / 32=((k / 32:Nat):Int):=by omega
   have q3:IntKind.i64.wrap ((k:Int) / 32)=((k / 32:Nat):Int):=by rw[IntWalk.i64_in _ (by omega)];omega
   have q4:IntKind.i64.wrap ((k / 32:Nat):Int)=((k / 32:Nat):Int):=IntWalk.i64_in _ (by omega)
   have e0:(0:Int)≤((k / 32:Nat):Int):=Int.natCast_nonneg _
   by_cases hk:k / 32<L.length
   ·rcases own_cases ho with ⟨-,rfl⟩ | ⟨g,cap,rfl,hg,hg2⟩
    ·exact absurd hk (by simp)
    obtain ⟨hc,hfz⟩:=own_at ho hk
    have hv:=hw.at (k / 32)
    have HP:=hid (Bs.put_at hk)
    have HG:=hid hg
    have D1:decide (((k / 32:Nat):Int)<(L.length:Int))=true:=dec_t (by omega)
    have e1:((k / 32:Nat):Int)<(L.length:Int):=by omega
    have r1:(k:Int).tmod 32=((k % 32:Nat):Int):=by rw[Int.tmod_eq_emod_of_nonneg hn];omega
    have r2:(k:Int) % 32=((k % 32:Nat):Int):=by omega
    have r3:IntKind.u64.wrap ((k % 32:Nat):Int)=((k % 32:Nat):Int):=by rw[IntKind.wrap_u64];omega
    have r0:(0:Int)≤((k % 32:Nat):Int):=Int.natCast_nonneg _
    have rq:min (k % 32) 32=k % 32:=by omega
    have hp2:(2:Nat) ^ (k % 32)<2 ^ 32:=Nat.pow_lt_pow_right (by decide) (Nat.mod_lt _ (by decide))
    have e:=u32_or_nat (L.getD (k / 32) 0) (2 ^ (k % 32)) hv hp2
    rw [← Bs.shl_mod (k % 32) (Nat.mod_lt _ (by decide))] at e
    generalize hy:L.getD (k / 32) 0 ||| 2 ^ (k % 32)=y at e HP
    generalize L.getD (k / 32) 0=x at hc hv e hy
    have HW:=hid (own_set ho (k / 32) y)
    generalize k / 32=i at q q2 q3 q4 D1 e0 e1 hc hfz HP HW hk
    generalize k % 32=j at r1 r2 r3 r0 rq e hy hp2
    clear hy hp2 ho hv hn hw
    go_wp2_with fail
    go_ret
    exact ⟨_,rfl,by rw[HP.out];exact HW.out,HB1.out.setCell (p:=⟨g,i,none⟩) HG.out _⟩
   ·have D1:decide (((k / 32:Nat):Int)<(L.length:Int))=false:=dec_f (by omega)
    have HP:=hid (show Bs.put L (k:Int)=L from if_neg (fun h=>hk (by have:=(Bs.fits_iff.1 h).2;rwa [Int.toNat_natCast] at this)))
    obtain ⟨-,B,d,rfl,hd,hR⟩:=Lies.Row.of_own (E:=LWd) ho
    generalize k / 32=i at q q2 q3 q4 D1 e0 hk
    clear ho hd hR hn hw
    go_wp2_with fail
    go_ret
    exact ⟨_,rfl,by rw[HP.out];exact HO1.out,HB1.out⟩
 --]
theorem rbSame_any (A:Option Addr) (c n:Nat) (L:List Nat) (A':Option Addr) (c' n':Nat) (M:List Nat) (w:World) (hn:L.length=n) (h:LWd.Row w A L) (hl:n≤1000000) (hn':M.length=n') (h':LWd.Row w A' M) :
 Calls Tryz.prog 37 #[.slice A n c,.slice A' n' c'] w (OneIs (.bool (decide (L=M))) w):=by
 --[
 subst hn hn'
 have B0:=hid (Below.refl w.heap.size w)
 have HR:=hid h
 have HR':=hid h'
 clear h h'
 by_cases hn:L.length=M.length
 ·have E : ((L.length:Int) != (M.length:Int))=false:=by rw[bne_eq_false_iff_eq];omega
  have HN:=hid hn
  go_enter Tryz.func37,Tryz.ntmps37
  go_wp2_with fail
  go_loopw [5] (fun v w'=>∃ j:Nat,j≤L.length∧v=.int .i64 j∧L.take j=M.take j∧Below w.heap.size w w') (fun v _=>L.length - (intOf v).toNat)
  case atStart=>exact ⟨0,Nat.zero_le _,rfl,rfl,B0.out⟩
  case round =>
   obtain ⟨j,hj,rfl,hp,hb⟩:=hrel
   by_cases hlt:j<L.length
   ·have hy:=List.getElem?_eq_getElem hlt
    have hy':=List.getElem?_eq_getElem (show j<M.length by omega)
    have HB:=hid hb
    obtain ⟨b,o,rfl,hbb,on⟩:=(HR.out.below rfl hb).at hlt
    obtain ⟨b',o',rfl,hbb',on'⟩:=(HR'.out.below rfl hb).at (show j<M.length by omega)
    generalize L[j]=x at hy on
    generalize M[j]=y at hy' on'
    have c0:=wd_on on
    have c0':=wd_on on'
    rw [show j * LWd.m=j from Nat.mul_one j] at c0 c0'
    have d1:decide ((j:Int)<(L.length:Int))=true:=dec_t (by omega)
    have i0:(0:Int)≤(j:Int):=Int.natCast_nonneg j
    have i1:(j:Int)<(L.length:Int):=by omega
    have i1':(j:Int)<(M.length:Int):=by omega
    have HY:=hid (And.intro hy hy')
    have HP:=hid hp
    clear hb hy hy' on on' hp E hn
    by_cases h1:x=y
    ·have E1:((x:Int) != (y:Int))=false:=by rw[bne_eq_false_iff_eq,h1]
     have HP2:=hid (show L.take (j+1)=M.take (j+1) from by
      rw [List.take_add_one,List.take_add_one,HY.out.1,HY.out.2,HP.out,h1])
     clear h1
     go_upto_region 6 with fail
     go_quiet (fail)
     go_wp2_with fail
     go_roundw
     case rel=>exact ⟨j+1,by omega,by go_num,HP2.out,below_drewN HB.out _⟩
     case measure=>simp [intOf];omega
    ·have E1:((x:Int) != (y:Int))=true:=by rw[bne_iff_ne];omega
     have HF:=hid (show decide (L=M)=false from decide_eq_false fun e=>by
      have h3:=HY.out.1
      rw [e,HY.out.2] at h3
      cases h3
      exact h1 rfl)
     clear h1
     go_upto_region 6 with fail
     go_quiet (fail)
     go_wp2_with fail
     go_ret
     exact ⟨by rw[HF.out] <;> rfl,below_drewN HB.out _⟩
   ·obtain rfl:j=L.length:=by omega
    have d1:decide ((L.length:Int)<(L.length:Int))=false:=dec_f (by omega)
    have HB:=hid hb
    have HP:=hid (show decide (L=M)=true from decide_eq_true (by
     rw [List.take_length,hn,List.take_length] at hp
     exact hp))
    clear hb hp hn E
    go_wp2_with fail
    go_ret
    exact ⟨by rw[HP.out] <;> rfl,HB.out⟩
 ·have E:((L.length:Int) != (M.length:Int))=true:=by rw[bne_iff_ne];omega
  have P:=hid (show decide (L=M)=false from decide_eq_false fun h=>hn (by rw[h]))
  clear hn
  go_enter Tryz.func37,Tryz.ntmps37
  go_wp2_with fail
  go_ret
  exact ⟨by rw[P.out] <;> rfl,B0.out⟩
 --]
end Go.Proofs.YtncphjodaklleaaGreat
