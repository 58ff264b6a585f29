/-
 Texts of this claim, merged: DmRef, DmRefB.
-/
import Derived.Test.YtncphjodaklleaaGreatMg12
import Derived.Test.YtncphjodaklleaaGreatMg13
import Derived.BigQuiet
import Derived.Deep.RegionHeld3
set_option maxHeartbeats 4000000
set_option maxRecDepth 100000
namespace Go.Proofs.YtncphjodaklleaaGreat
open Go.RowKit
theorem Dm.posOf_drop {L:List Dm.Dem} {j:Nat} {x:Dm.Dem} (h:L[j]? = some x) (k:Int):Dm.posOf (L.drop j) k=if x.pt=k then x.pos else Dm.posOf (L.drop (j+1)) k:=by
 obtain ⟨hj,rfl⟩:=List.getElem?_eq_some_iff.1 h
 rw [List.drop_eq_getElem_cons hj,Dm.posOf_cons]
theorem rdPosition_any (A:Option Addr) (c:Nat) (L:List Dm.Dem) (k:Int) (w:World) (h:LDem.Row w A L) (hl:L.length≤1000000) :
 Calls Tryz.prog 102 #[.slice A L.length c,.int .i64 k] w (OneIs (.int .i64 (Dm.posOf L k)) w):=by
 --[
 have B0:=Lib.hid (Below.refl w.heap.size w)
 have HR:=Lib.hid h
 generalize hq:Dm.posOf L k=q
 have HQ:=Lib.hid hq
 clear h hq
 go_enter Tryz.func102,Tryz.ntmps102
 go_wp2_with fail
 go_loopw [5] (fun v w'=>∃ j:Nat,j≤L.length∧v=.int .i64 j∧Dm.posOf (L.drop j) k=q∧Below w.heap.size w w') (fun v _=>L.length - (intOf v).toNat)
 case atStart=>exact ⟨0,Nat.zero_le _,rfl,by rw[List.drop_zero];exact HQ.out,B0.out⟩
 case round =>
  obtain ⟨j,hj,rfl,hp,hb⟩:=hrel
  by_cases hlt:j<L.length
  ·have hy:=List.getElem?_eq_getElem hlt
   obtain ⟨b,o,rfl,hbb,on⟩:=(HR.out.below rfl hb).at hlt
   generalize L[j]=x at hy on
   obtain ⟨c0,c1⟩:=dem_on on
   rw [show j * LDem.m=j * 2 from rfl] at c0 c1
   rw [Dm.posOf_drop hy] at hp
   have d1:decide ((j:Int)<(L.length:Int))=true:=dec_t (by omega)
   have i0:(0:Int)≤(j:Int):=Int.natCast_nonneg j
   have i1:(j:Int)<(L.length:Int):=by omega
   have HB:=Lib.hid hb
   have HP:=Lib.hid hp
   clear hb hy on hp
   by_cases hk:x.pt=k
   ·have E:(x.pt == k)=true:=by rw[beq_iff_eq];exact hk
    have HP2:=Lib.hid (show x.pos=q from by have:=HP.out;rwa [if_pos hk] at this)
    clear hk
    go_wp2_with fail
    go_ret
    exact ⟨by rw[HP2.out] <;> rfl,HB.out⟩
   ·have E:(x.pt == k)=false:=by rw[beq_eq_false_iff_ne];exact hk
    have HP2:=Lib.hid (show Dm.posOf (L.drop (j+1)) k=q from by have:=HP.out;rwa [if_neg hk] at this)
    clear hk
    go_wp2_with fail
    go_roundw
    case rel=>exact ⟨j+1,by omega,by go_num,HP2.out,HB.out⟩
    case measure=>simp [intOf];omega
  ·obtain rfl:j=L.length:=by omega
   have d1:decide ((L.length:Int)<(L.length:Int))=false:=dec_f (by omega)
   rw [List.drop_length] at hp
   have HB:=Lib.hid hb
   have HP:=Lib.hid hp
   clear hb hp
   go_wp2_with fail
   go_ret
   exact ⟨by rw[← HP.out];rfl,HB.out⟩
 --]
theorem Dm.opposed_drop {L:List Dm.Dem} {j:Nat} {x:Dm.Dem} (h:L[j]? = some x) (b:List Dm.Dem):Dm.opposed (L.drop j) b=((decide (Dm.posOf b x.pt≠0) && decide (Dm.posOf b x.pt≠x.pos)) || Dm.opposed (L.drop (j+1)) b):=by
 obtain ⟨hj,rfl⟩:=List.getElem?_eq_some_iff.1 h
 rw [List.drop_eq_getElem_cons hj]
 unfold Dm.opposed
 rw [List.any_cons]
theorem rdOpposed_any (A:Option Addr) (c:Nat) (L:List Dm.Dem) (A':Option Addr) (c':Nat) (M:List Dm.Dem) (w:World) (h:LDem.Row w A L) (hl:L.length≤1000000) (h':LDem.Row w A' M) (hl':M.length≤1000000) :
 Calls Tryz.prog 68 #[.slice A L.length c,.slice A' M.length c'] w (OneIs (.bool (Dm.opposed L M)) w):=by
 --[
 have B0:=Lib.hid (Below.refl w.heap.size w)
 have HR:=Lib.hid h
 have CP:=Lib.hid (fun W (hb:Below w.heap.size w W) k=>rdPosition_any A' c' M k W (h'.below rfl hb) hl')
 generalize hq:Dm.opposed L M=q
 have HQ:=Lib.hid hq
 clear h hq h' hl'
 go_enter Tryz.func68,Tryz.ntmps68
 go_wp2_with fail
 go_loopw [5] (fun v w'=>∃ j:Nat,j≤L.length∧v=.int .i64 j∧Dm.opposed (L.drop j) M=q∧Below w.heap.size w w') (fun v _=>L.length - (intOf v).toNat)
 case atStart=>exact ⟨0,Nat.zero_le _,rfl,by rw[List.drop_zero];exact HQ.out,B0.out⟩
 case round =>
  obtain ⟨j,hj,rfl,hp,hb⟩:=hrel
  by_cases hlt:j<L.length
  ·have hy:=List.getElem?_eq_getElem hlt
   have HB:=Lib.hid hb
   obtain ⟨b,o,rfl,hbb,on⟩:=(HR.out.below rfl hb).at hlt
   generalize L[j]=x at hy on
   obtain ⟨c0,c1⟩:=dem_on on
   rw [show j * LDem.m=j * 2 from rfl] at c0 c1
   rw [Dm.opposed_drop hy] at hp
   have d1:decide ((j:Int)<(L.length:Int))=true:=dec_t (by omega)
   have i0:(0:Int)≤(j:Int):=Int.natCast_nonneg j
   have i1:(j:Int)<(L.length:Int):=by omega
   have C:=Lib.hid (CP.out _ hb x.pt)
   have K1:=Lib.hid (fun W (hW:Below wr.heap.size wr W)=>(hW.cell (p:=⟨b,o+j * 2+1,none⟩) hbb).trans c1)
   have HP:=Lib.hid hp
   clear hb hy on hp
   generalize Dm.posOf M x.pt=n at C HP
   go_wp2_with fail
   refine C.out.mono ?_;rintro e w1 ⟨rfl,hb1⟩
   have k1:=K1.out _ hb1
   have HB1:=Lib.hid (HB.out.trans (hb1.mono HB.out.size))
   clear hb1 c0 c1 hbb C K1
   by_cases h0:n=0
   ·have E:(n != 0)=false:=by rw[bne_eq_false_iff_eq];exact h0
    have HP2:=Lib.hid (show Dm.opposed (L.drop (j+1)) M=q from by have:=HP.out;rw[h0] at this;exact this)
    clear h0
    go_wp2_with fail
    go_roundw
    case rel=>exact ⟨j+1,by omega,by go_num,HP2.out,HB1.out⟩
    case measure=>simp [intOf];omega
   have E:(n != 0)=true:=by rw[bne_iff_ne];exact h0
   by_cases h1:n=x.pos
   ·have E2:(n != x.pos)=false:=by rw[bne_eq_false_iff_eq];exact h1
    have HP2:=Lib.hid (show Dm.opposed (L.drop (j+1)) M=q from by
     have:=HP.out
     rw [decide_eq_false (p:=n≠x.pos) (fun h=>h h1),Bool.and_false,Bool.false_or] at this
     exact this)
    clear h0 h1
    go_wp2_with fail
    go_roundw
    case rel=>exact ⟨j+1,by omega,by go_num,HP2.out,HB1.out⟩
    case measure=>simp [intOf];omega
   ·have E2:(n != x.pos)=true:=by rw[bne_iff_ne];exact h1
    have HP2:=Lib.hid (show true=q from by
     have:=HP.out
     rw [decide_eq_true (p:=n≠x.pos) h1,decide_eq_true (p:=n≠0) h0,Bool.true_and,Bool.true_or] at this
     exact this)
    clear h0 h1
    go_wp2_with fail
    go_ret
    exact ⟨by rw[← HP2.out] <;> rfl,HB1.out⟩
  ·obtain rfl:j=L.length:=by omega
   have d1:decide ((L.length:Int)<(L.length:Int))=false:=dec_f (by omega)
   rw [List.drop_length] at hp
   have HB:=Lib.hid hb
   have HP:=Lib.hid (show false=q from hp)
   clear hb hp
   go_wp2_with fail
   go_ret
   exact ⟨by rw[← HP.out] <;> rfl,HB.out⟩
 --]
namespace Dm
theorem tw_take {α:Type} (p:α→Bool) (L:List α):L.take (L.takeWhile p).length=L.takeWhile p:=by
 have h:L.takeWhile p++L.dropWhile p=L:=List.takeWhile_append_dropWhile
 have:=List.take_left (l₁:=L.takeWhile p) (l₂:=L.dropWhile p)
 rwa [h] at this
theorem tw_drop {α:Type} (p:α→Bool) (L:List α):L.drop (L.takeWhile p).length=L.dropWhile p:=by
 have h:L.takeWhile p++L.dropWhile p=L:=List.takeWhile_append_dropWhile
 have:=List.drop_left (l₁:=L.takeWhile p) (l₂:=L.dropWhile p)
 rwa [h] at this
theorem put_free {L:List Dem} {x:Dem} (h:posOf L x.pt=0):put L x=L.take (L.takeWhile (low x.pt)).length++x :: L.drop (L.takeWhile (low x.pt)).length:=by
 unfold put
 rw [if_neg (by rw[h];decide),tw_take,tw_drop]
theorem put_had {L:List Dem} {x:Dem} (h:posOf L x.pt≠0):put L x=L:=by
 unfold put
 rw [if_pos h]
end Dm
def DemsOr (A:Option Addr) (L0 L:List Dm.Dem) (w:World) (e:Ending) (w':World):Prop:=∃ B d,e=.returned (.slice B L.length d)∧LDem.Row w' B L∧L.length≤d∧Below w.heap.size w w'∧((B=A∧L=L0)∨∀ a,B=some a→w.heap.size≤a.block)
theorem DemsOr.yes {A:Option Addr} {L0 L:List Dm.Dem} {w:World} {e:Ending} {w':World} (h:DemsOr A L0 L w e w'):DemsYes L w e w':=by
 obtain ⟨B,d,h1,h2,h3,h4,-⟩:=h
 exact ⟨B,d,h1,h2,h3,h4⟩
theorem DemsOr.of_own {A:Option Addr} {L0 L:List Dm.Dem} {w w':World} {base n:Nat} {v:Value} (h:w'.ownsRow base 125 LDem.m v n (LDem.all L)) (hn:n=L.length) (hb:Below w.heap.size w w') (hbase:w.heap.size≤base):DemsOr A L0 L w (.returned v) w':=by
 subst hn
 have hlt:=h.lt
 obtain ⟨-,B,d,rfl,hc,hR⟩:=Lies.Row.of_own (E:=LDem) h
 exact ⟨B,d,rfl,hR,hc,hb,.inr fun a ha=>by
  subst ha
  exact Nat.le_trans hbase (hlt a.block rfl).1⟩
theorem cell_posn {w:World} {g:Nat} {a b:Value} {t:TypeId} (h:w.heap[g]? = some (.cells #[a,b] t (0,0))):w.cell? ⟨g,0,none⟩ = some a∧w.cell? ⟨g,1,none⟩ = some b:=⟨cell_of_row w g 0 _ t _ h,cell_of_row w g 1 _ t _ h⟩
end Go.Proofs.YtncphjodaklleaaGreat
