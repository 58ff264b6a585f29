/-
 Texts of this claim, merged: ItRParseE, ItRParseA, ItEq, ItRight, ItAwake, FigBack, ItKit, ShMem, ShParse, ShRParse, RowMem, PlMem, PlRefA, PlRefB.
-/
import Derived.Test.YtncphjodaklleaaGreatMg01
import Derived.Test.YtncphjodaklleaaGreatMg02
import Derived.Test.YtncphjodaklleaaGreatMg04
import Derived.Test.YtncphjodaklleaaGreatMg05
import Derived.BigFrame
import Derived.ChangeKeysEq
import Derived.Deep.AppendLies
import Derived.Deep.AppendSrc
import Derived.Deep.OwnRows
import Derived.Deep.RegionHeld3
import Derived.Deep.Slices
import Derived.Lib.Hide
import Derived.Lib.ItoaNum
import Derived.OpenShut
import Derived.OwnWalk
import Derived.Sort.Walk0
set_option maxHeartbeats 8000000
set_option maxRecDepth 100000
namespace Go.Proofs.YtncphjodaklleaaGreat
open Go.RowKit
theorem rtip_t (x:List UInt8) (w:World) (hs:x.length≤1000000) (h:It.tipOk x=true) :
 Calls Tryz.prog 73 #[.string (txt x)] w fun e w'=>e=.returned (.tuple #[.agg #[.string (txt (It.tip x).n),.int .u8 (It.tip x).c.toNat],.bool true])∧Below w.heap.size w w':=by
 have:=rtip_any (txt x) w (by rw[txt_size];unfold maxLen;omega)
 rwa [txt_toList,h] at this
theorem rtip_f (x:List UInt8) (w:World) (hs:x.length≤1000000) (h:It.tipOk x=false) :
 Calls Tryz.prog 73 #[.string (txt x)] w fun e w'=>e=.returned (.tuple #[.agg #[.string ⟨#[]⟩,.int .u8 0],.bool false])∧Below w.heap.size w w':=by
 have:=rtip_any (txt x) w (by rw[txt_size];unfold maxLen;omega)
 rw [txt_toList,h,tip_no h] at this
 exact this
def EndsRel (T:List (List UInt8)) (k:Int) (nm:List UInt8) (w1:World) (i:Value) (wr:World):Prop :=
 ∃ (j:Nat) (e0 e1:It.Tp),j≤T.length∧i=.int .i64 j∧TipsTo T j e0 e1 ∧
   wr.heap[w1.heap.size]? = some (.cells #[.int .i64 k,.string (txt nm),.int .i64 0,.string (txt e0.n),.int .u8 e0.c.toNat,.string (txt e1.n),.int .u8 e1.c.toNat] 93 (0,0))∧Below w1.heap.size w1 wr
theorem TipsTo.none {T:List (List UInt8)}:TipsTo T 0 It.Tp.zero It.Tp.zero:=⟨by simp,fun h=>absurd h (by omega),fun h=>absurd h (by omega),fun _=>rfl⟩
theorem parseK_7_yes {a b:List UInt8} {e0 e1:It.Tp} (h:TipsTo [a,b] 2 e0 e1):It.parseK 7 [a,b]=some ⟨7,[],0,e0,e1⟩:=by
 have h1:(It.tipOk a && It.tipOk b)=true:=by simpa using h.1
 obtain rfl:=h.2.1 (by omega)
 obtain rfl:=h.2.2.1 (by omega)
 show (if (It.tipOk a && It.tipOk b)=true then _ else _)=_
 rw [if_pos h1];rfl
theorem parseK_8_yes {a:List UInt8} {e0 e1:It.Tp} (h:TipsTo [a] 1 e0 e1):It.parseK 8 [a]=some ⟨8,[],0,e0,e1⟩:=by
 have h1:It.tipOk a=true:=by simpa using h.1
 obtain rfl:=h.2.1 (by omega)
 obtain rfl:=h.2.2.2 (by omega)
 show (if It.tipOk a=true then _ else _)=_
 rw [if_pos h1];rfl
theorem parseK_9_yes {m a:List UInt8} {e0 e1:It.Tp} (hm:Fig.nameB m=true) (h:TipsTo [a] 1 e0 e1):It.parseK 9 [m,a]=some ⟨9,m,0,e0,e1⟩:=by
 have h1:It.tipOk a=true:=by simpa using h.1
 obtain rfl:=h.2.1 (by omega)
 obtain rfl:=h.2.2.2 (by omega)
 show (if (Fig.nameB m && It.tipOk a)=true then _ else _)=_
 rw [hm,h1];rfl
theorem parseK_7_no {a b:List UInt8} (h:It.tipOk a=false∨It.tipOk b=false):It.parseK 7 [a,b]=none:=by
 show (if (It.tipOk a && It.tipOk b)=true then _ else _)=_
 rw [if_neg (by rcases h with h | h <;> simp [h])]
theorem parseK_8_no {a:List UInt8} (h:It.tipOk a=false):It.parseK 8 [a]=none:=by
 show (if It.tipOk a=true then _ else _)=_
 rw [h];rfl
theorem parseK_9_no {m a:List UInt8} (h:It.tipOk a=false):It.parseK 9 [m,a]=none:=by
 show (if (Fig.nameB m && It.tipOk a)=true then _ else _)=_
 rw [h];simp
theorem tipsTo_0' {T:List (List UInt8)} {a:List UInt8} {e0 e1:It.Tp} (h:T[0]? = some a) (ho:It.tipOk a=true) (t:TipsTo T 0 e0 e1):TipsTo T (0+1) (It.tip a) e1:=by
 obtain ⟨hl,rfl⟩:=List.getElem?_eq_some_iff.1 h
 exact tipsTo_0 hl ho t
theorem tipsTo_1' {T:List (List UInt8)} {a:List UInt8} {e0 e1:It.Tp} (h:T[1]? = some a) (ho:It.tipOk a=true) (t:TipsTo T 1 e0 e1):TipsTo T (1+1) e0 (It.tip a):=by
 obtain ⟨hl,rfl⟩:=List.getElem?_eq_some_iff.1 h
 exact tipsTo_1 hl ho t
theorem rp_7_one (s:ByteArray) (x:List UInt8) (a b:List UInt8) (ha:a.length≤1000000) (hb:b.length≤1000000) (w:World) (W:HasWords s x [a,b] w) (hk:It.kind x=7) (hx:x.length≤1000000) :
 Calls Tryz.prog 42 #[.string s] w (ParseGives (It.parseK 7 [a,b]) w):=by
 have hb0:=Lib.hid ((Below.refl w.heap.size w).alloc (Nat.le_refl _) itZ)
 have R0:=Lib.hid (show (w.alloc itZ).heap[w.heap.size]? = some (.cells #[.int .i64 0,.string ⟨#[]⟩,.int .i64 0,.string ⟨#[]⟩,.int .u8 0,.string ⟨#[]⟩,.int .u8 0] 93 (0,0)) from heap_alloc_new _ _)
 have C:=Lib.hid W
 have KC:=Lib.hid (fun w=>rkind_t x w hx 7 hk)
 clear W hk
 go_enter Tryz.func42,Tryz.ntmps42
 go_wp2_with fail
 refine C.out.mono ?_;rintro e w1 ⟨A,c,hc,rfl,hs1,hb1⟩
 have r0:=(hb1.block _ (show w.heap.size<(w.alloc itZ).heap.size by simp)).trans R0.out
 obtain ⟨⟨a0,a1,a2,a3,a4,a5,a6⟩,⟨f0,f1,f2,f3,f4,f5,f6⟩,hy0⟩:=row7 r0
 have Q0:=Lib.hid r0
 have hbW:=Lib.hid (hb0.out.trans (hb1.mono (by simp)))
 clear r0 hb1
 obtain ⟨bk,o,rfl⟩:=strs_addr hs1
 have hbk:=(strs_at hs1 0 (by simp)).1
 have hc00:=at_words hs1
 have n0:=World.new_ne _ _ a0
 have n1:=World.new_ne _ _ hc00
 simp only [List.length_cons] at hc
 have hc01:=strs_2 hs1
 have hc02:=strs_3 hs1
 clear hs1
 go_wp2_with fail
 refine (KC.out _).mono ?_;rintro e w' ⟨rfl,rfl⟩
 go_wp2_with fail
 have HC0:=Lib.hid hc01
 have HC1:=Lib.hid hc02
 clear hc01 hc02 hc00 n1 a0 a1 a2 a3 a4 a5 a6 f0 f1 f2 f3 f4 f5 f6 n0
 go_loopw [13] (fun i wr=>EndsRel [a,b] 7 [] w1 i wr) (fun i _=>2 - (intOf i).toNat)
 case atStart =>
  refine ⟨0,It.Tp.zero,It.Tp.zero,Nat.zero_le _,rfl,TipsTo.none,?_,?_⟩
  ·exact heap_alloc_new _ _
  ·exact (Below.refl _ _).alloc (Nat.le_refl _) _
 case round =>
  obtain ⟨j,e0,e1,hj,rfl,hto,hr1,hbel⟩:=hrel
  have hz1:=(row7 hr1).2.2
  have TO:=Lib.hid hto
  have R1:=Lib.hid hr1
  clear hto hr1
  simp only [List.length_cons,List.length_nil] at hj
  by_cases hlt:j<2
  ·have hj01:j=0∨j=1:=by omega
   rcases hj01 with rfl | rfl
   ·have hca:wr.cell? ⟨bk,o+1,none⟩ = some (.string (txt a)):=(hbel.cell (p:=⟨bk,o+1,none⟩) hbk).trans HC0.out
    cases hok:It.tipOk a
    ·have TF:=Lib.hid (fun w=>rtip_f a w ha hok)
     have P:=Lib.hid (parseK_7_no (a:=a) (b:=b) (by first | exact Or.inl hok | exact Or.inr hok))
     clear hok
     go_wp2_with fail
     refine (TF.out _).mono ?_;rintro e w2 ⟨rfl,hb1⟩
     have hz2:=hb1.size
     have r1:=(hb1.block _ hz1).trans R1.out
     obtain ⟨⟨b0,b1,b2,b3,b4,b5,b6⟩,⟨g0,g1,g2,g3,g4,g5,g6⟩,hy1⟩:=row7 r1
     have hbT:=Lib.hid (hbel.trans (hb1.mono hbel.size))
     have r0:=(hbT.out.block _ hy0).trans Q0.out
     obtain ⟨⟨a0,a1,a2,a3,a4,a5,a6⟩,⟨f0,f1,f2,f3,f4,f5,f6⟩,hy2⟩:=row7 r0
     have n2:=World.new_ne _ _ b0
     have n3:=World.new_ne _ _ a0
     have U1:=Lib.hid r1
     have hbX:=Lib.hid (hbW.out.trans (hbT.out.mono hbW.out.size))
     clear r1 r0 hb1 hca
     go_wp2_with fail
     refine bodyPost_ret ?_ rfl (ParseGives.no P.out rfl ?_)
     ·simp [results,Tryz.results42,go_sem, *]
     ·(repeat (first | (with_reducible refine Below.setCell ?_ (by first | exact Nat.le_refl _ | (simp;done) | ((try simp);omega)) _) | (with_reducible refine Below.alloc ?_ (by first | (simp;done) | ((try simp);omega)) _) | with_reducible refine Below.drew ?_));exact hbX.out
    ·have TT:=Lib.hid (fun w=>rtip_t a w ha hok)
     have HOK:=Lib.hid hok
     clear hok
     go_wp2_with fail
     refine (TT.out _).mono ?_;rintro e w2 ⟨rfl,hb1⟩
     have hz2:=hb1.size
     have r1:=(hb1.block _ hz1).trans R1.out
     obtain ⟨⟨b0,b1,b2,b3,b4,b5,b6⟩,⟨g0,g1,g2,g3,g4,g5,g6⟩,hy1⟩:=row7 r1
     have hbT:=Lib.hid (hbel.trans (hb1.mono hbel.size))
     have r0:=(hbT.out.block _ hy0).trans Q0.out
     obtain ⟨⟨a0,a1,a2,a3,a4,a5,a6⟩,⟨f0,f1,f2,f3,f4,f5,f6⟩,hy2⟩:=row7 r0
     have n2:=World.new_ne _ _ b0
     have n3:=World.new_ne _ _ a0
     have U1:=Lib.hid r1
     have hbX:=Lib.hid (hbW.out.trans (hbT.out.mono hbW.out.size))
     clear r1 r0 hb1 hca
     go_wp2_with fail
     go_roundw
     case rel =>
      refine ⟨0+1,(It.tip a),e1,by simp,by go_num,tipsTo_0' rfl HOK.out TO.out,?_,?_⟩
      ·exact (row_alloc (by simp;omega) _).trans (heap_setCell_same _ _ _ _ _ _ (heap_setCell_same _ _ _ _ _ _ U1.out))
      ·exact ((hbT.out.setCell (Nat.le_refl _) _).setCell (Nat.le_refl _) _).alloc (by simp;omega) _
     case measure=>simp [intOf]
   ·have hca:wr.cell? ⟨bk,o+2,none⟩ = some (.string (txt b)):=(hbel.cell (p:=⟨bk,o+2,none⟩) hbk).trans HC1.out
    cases hok:It.tipOk b
    ·have TF:=Lib.hid (fun w=>rtip_f b w hb hok)
     have P:=Lib.hid (parseK_7_no (a:=a) (b:=b) (by first | exact Or.inl hok | exact Or.inr hok))
     clear hok
     go_wp2_with fail
     refine (TF.out _).mono ?_;rintro e w2 ⟨rfl,hb1⟩
     have hz2:=hb1.size
     have r1:=(hb1.block _ hz1).trans R1.out
     obtain ⟨⟨b0,b1,b2,b3,b4,b5,b6⟩,⟨g0,g1,g2,g3,g4,g5,g6⟩,hy1⟩:=row7 r1
     have hbT:=Lib.hid (hbel.trans (hb1.mono hbel.size))
     have r0:=(hbT.out.block _ hy0).trans Q0.out
     obtain ⟨⟨a0,a1,a2,a3,a4,a5,a6⟩,⟨f0,f1,f2,f3,f4,f5,f6⟩,hy2⟩:=row7 r0
     have n2:=World.new_ne _ _ b0
     have n3:=World.new_ne _ _ a0
     have U1:=Lib.hid r1
     have hbX:=Lib.hid (hbW.out.trans (hbT.out.mono hbW.out.size))
     clear r1 r0 hb1 hca
     go_wp2_with fail
     refine bodyPost_ret ?_ rfl (ParseGives.no P.out rfl ?_)
     ·simp [results,Tryz.results42,go_sem, *]
     ·(repeat (first | (with_reducible refine Below.setCell ?_ (by first | exact Nat.le_refl _ | (simp;done) | ((try simp);omega)) _) | (with_reducible refine Below.alloc ?_ (by first | (simp;done) | ((try simp);omega)) _) | with_reducible refine Below.drew ?_));exact hbX.out
    ·have TT:=Lib.hid (fun w=>rtip_t b w hb hok)
     have HOK:=Lib.hid hok
     clear hok
     go_wp2_with fail
     refine (TT.out _).mono ?_;rintro e w2 ⟨rfl,hb1⟩
     have hz2:=hb1.size
     have r1:=(hb1.block _ hz1).trans R1.out
     obtain ⟨⟨b0,b1,b2,b3,b4,b5,b6⟩,⟨g0,g1,g2,g3,g4,g5,g6⟩,hy1⟩:=row7 r1
     have hbT:=Lib.hid (hbel.trans (hb1.mono hbel.size))
     have r0:=(hbT.out.block _ hy0).trans Q0.out
     obtain ⟨⟨a0,a1,a2,a3,a4,a5,a6⟩,⟨f0,f1,f2,f3,f4,f5,f6⟩,hy2⟩:=row7 r0
     have n2:=World.new_ne _ _ b0
     have n3:=World.new_ne _ _ a0
     have U1:=Lib.hid r1
     have hbX:=Lib.hid (hbW.out.trans (hbT.out.mono hbW.out.size))
     clear r1 r0 hb1 hca
     go_wp2_with fail
     go_roundw
     case rel =>
      refine ⟨1+1,e0,(It.tip b),by simp,by go_num,tipsTo_1' rfl HOK.out TO.out,?_,?_⟩
      ·exact (row_alloc (by simp;omega) _).trans (heap_setCell_same _ _ _ _ _ _ (heap_setCell_same _ _ _ _ _ _ U1.out))
      ·exact ((hbT.out.setCell (Nat.le_refl _) _).setCell (Nat.le_refl _) _).alloc (by simp;omega) _
     case measure=>simp [intOf]
  ·obtain rfl:j=2:=by omega
   have P:=Lib.hid (parseK_7_yes TO.out)
   obtain ⟨⟨b0,b1,b2,b3,b4,b5,b6⟩,⟨g0,g1,g2,g3,g4,g5,g6⟩,hy1⟩:=row7 R1.out
   have r0:=(hbel.block _ hy0).trans Q0.out
   obtain ⟨⟨a0,a1,a2,a3,a4,a5,a6⟩,⟨f0,f1,f2,f3,f4,f5,f6⟩,hy2⟩:=row7 r0
   have hbX:=Lib.hid (hbW.out.trans (hbel.mono hbW.out.size))
   clear r0
   go_wp2_with fail
   refine bodyPost_ret ?_ rfl (ParseGives.yes P.out rfl ?_)
   ·simp [results,Tryz.results42,go_sem, *] <;> (repeat' (first | exact rfl | apply And.intro))
   ·(repeat (first | (with_reducible refine Below.setCell ?_ (by first | exact Nat.le_refl _ | (simp;done) | ((try simp);omega)) _) | (with_reducible refine Below.alloc ?_ (by first | (simp;done) | ((try simp);omega)) _) | with_reducible refine Below.drew ?_));exact hbX.out
theorem rp_8_one (s:ByteArray) (x:List UInt8) (a:List UInt8) (ha:a.length≤1000000) (w:World) (W:HasWords s x [a] w) (hk:It.kind x=8) (hx:x.length≤1000000) :
 Calls Tryz.prog 42 #[.string s] w (ParseGives (It.parseK 8 [a]) w):=by
 have hb0:=Lib.hid ((Below.refl w.heap.size w).alloc (Nat.le_refl _) itZ)
 have R0:=Lib.hid (show (w.alloc itZ).heap[w.heap.size]? = some (.cells #[.int .i64 0,.string ⟨#[]⟩,.int .i64 0,.string ⟨#[]⟩,.int .u8 0,.string ⟨#[]⟩,.int .u8 0] 93 (0,0)) from heap_alloc_new _ _)
 have C:=Lib.hid W
 have KC:=Lib.hid (fun w=>rkind_t x w hx 8 hk)
 clear W hk
 go_enter Tryz.func42,Tryz.ntmps42
 go_wp2_with fail
 refine C.out.mono ?_;rintro e w1 ⟨A,c,hc,rfl,hs1,hb1⟩
 have r0:=(hb1.block _ (show w.heap.size<(w.alloc itZ).heap.size by simp)).trans R0.out
 obtain ⟨⟨a0,a1,a2,a3,a4,a5,a6⟩,⟨f0,f1,f2,f3,f4,f5,f6⟩,hy0⟩:=row7 r0
 have Q0:=Lib.hid r0
 have hbW:=Lib.hid (hb0.out.trans (hb1.mono (by simp)))
 clear r0 hb1
 obtain ⟨bk,o,rfl⟩:=strs_addr hs1
 have hbk:=(strs_at hs1 0 (by simp)).1
 have hc00:=at_words hs1
 have n0:=World.new_ne _ _ a0
 have n1:=World.new_ne _ _ hc00
 simp only [List.length_cons] at hc
 have hc01:=strs_2 hs1
 clear hs1
 go_wp2_with fail
 refine (KC.out _).mono ?_;rintro e w' ⟨rfl,rfl⟩
 go_wp2_with fail
 have HC0:=Lib.hid hc01
 clear hc01 hc00 n1 a0 a1 a2 a3 a4 a5 a6 f0 f1 f2 f3 f4 f5 f6 n0
 go_loopw [13] (fun i wr=>EndsRel [a] 8 [] w1 i wr) (fun i _=>1 - (intOf i).toNat)
 case atStart =>
  refine ⟨0,It.Tp.zero,It.Tp.zero,Nat.zero_le _,rfl,TipsTo.none,?_,?_⟩
  ·exact heap_alloc_new _ _
  ·exact (Below.refl _ _).alloc (Nat.le_refl _) _
 case round =>
  obtain ⟨j,e0,e1,hj,rfl,hto,hr1,hbel⟩:=hrel
  have hz1:=(row7 hr1).2.2
  have TO:=Lib.hid hto
  have R1:=Lib.hid hr1
  clear hto hr1
  simp only [List.length_cons,List.length_nil] at hj
  by_cases hlt:j<1
  ·obtain rfl:j=0:=by omega
   have hca:wr.cell? ⟨bk,o+1,none⟩ = some (.string (txt a)):=(hbel.cell (p:=⟨bk,o+1,none⟩) hbk).trans HC0.out
   cases hok:It.tipOk a
   ·have TF:=Lib.hid (fun w=>rtip_f a w ha hok)
    have P:=Lib.hid (parseK_8_no hok)
    clear hok
    go_wp2_with fail
    refine (TF.out _).mono ?_;rintro e w2 ⟨rfl,hb1⟩
    have hz2:=hb1.size
    have r1:=(hb1.block _ hz1).trans R1.out
    obtain ⟨⟨b0,b1,b2,b3,b4,b5,b6⟩,⟨g0,g1,g2,g3,g4,g5,g6⟩,hy1⟩:=row7 r1
    have hbT:=Lib.hid (hbel.trans (hb1.mono hbel.size))
    have r0:=(hbT.out.block _ hy0).trans Q0.out
    obtain ⟨⟨a0,a1,a2,a3,a4,a5,a6⟩,⟨f0,f1,f2,f3,f4,f5,f6⟩,hy2⟩:=row7 r0
    have n2:=World.new_ne _ _ b0
    have n3:=World.new_ne _ _ a0
    have U1:=Lib.hid r1
    have hbX:=Lib.hid (hbW.out.trans (hbT.out.mono hbW.out.size))
    clear r1 r0 hb1 hca
    go_wp2_with fail
    refine bodyPost_ret ?_ rfl (ParseGives.no P.out rfl ?_)
    ·simp [results,Tryz.results42,go_sem, *]
    ·(repeat (first | (with_reducible refine Below.setCell ?_ (by first | exact Nat.le_refl _ | (simp;done) | ((try simp);omega)) _) | (with_reducible refine Below.alloc ?_ (by first | (simp;done) | ((try simp);omega)) _) | with_reducible refine Below.drew ?_));exact hbX.out
   ·have TT:=Lib.hid (fun w=>rtip_t a w ha hok)
    have HOK:=Lib.hid hok
    clear hok
    go_wp2_with fail
    refine (TT.out _).mono ?_;rintro e w2 ⟨rfl,hb1⟩
    have hz2:=hb1.size
    have r1:=(hb1.block _ hz1).trans R1.out
    obtain ⟨⟨b0,b1,b2,b3,b4,b5,b6⟩,⟨g0,g1,g2,g3,g4,g5,g6⟩,hy1⟩:=row7 r1
    have hbT:=Lib.hid (hbel.trans (hb1.mono hbel.size))
    have r0:=(hbT.out.block _ hy0).trans Q0.out
    obtain ⟨⟨a0,a1,a2,a3,a4,a5,a6⟩,⟨f0,f1,f2,f3,f4,f5,f6⟩,hy2⟩:=row7 r0
    have n2:=World.new_ne _ _ b0
    have n3:=World.new_ne _ _ a0
    have U1:=Lib.hid r1
    have hbX:=Lib.hid (hbW.out.trans (hbT.out.mono hbW.out.size))
    clear r1 r0 hb1 hca
    go_wp2_with fail
    go_roundw
    case rel =>
     refine ⟨0+1,(It.tip a),e1,by simp,by go_num,tipsTo_0' rfl HOK.out TO.out,?_,?_⟩
     ·exact (row_alloc (by simp;omega) _).trans (heap_setCell_same _ _ _ _ _ _ (heap_setCell_same _ _ _ _ _ _ U1.out))
     ·exact ((hbT.out.setCell (Nat.le_refl _) _).setCell (Nat.le_refl _) _).alloc (by simp;omega) _
    case measure=>simp [intOf]
  ·obtain rfl:j=1:=by omega
   have P:=Lib.hid (parseK_8_yes TO.out)
   obtain ⟨⟨b0,b1,b2,b3,b4,b5,b6⟩,⟨g0,g1,g2,g3,g4,g5,g6⟩,hy1⟩:=row7 R1.out
   have r0:=(hbel.block _ hy0).trans Q0.out
   obtain ⟨⟨a0,a1,a2,a3,a4,a5,a6⟩,⟨f0,f1,f2,f3,f4,f5,f6⟩,hy2⟩:=row7 r0
   have hbX:=Lib.hid (hbW.out.trans (hbel.mono hbW.out.size))
   clear r0
   go_wp2_with fail
   refine bodyPost_ret ?_ rfl (ParseGives.yes P.out rfl ?_)
   ·simp [results,Tryz.results42,go_sem, *] <;> (repeat' (first | exact rfl | apply And.intro))
   ·(repeat (first | (with_reducible refine Below.setCell ?_ (by first | exact Nat.le_refl _ | (simp;done) | ((try simp);omega)) _) | (with_reducible refine Below.alloc ?_ (by first | (simp;done) | ((try simp);omega)) _) | with_reducible refine Below.drew ?_));exact hbX.out
theorem rp_9_one (s:ByteArray) (x:List UInt8) (m a:List UInt8) (hm:m.length≤1000000) (ha:a.length≤1000000) (hn:Fig.nameB m=true) (w:World) (W:HasWords s x [m,a] w) (hk:It.kind x=9) (hx:x.length≤1000000) :
 Calls Tryz.prog 42 #[.string s] w (ParseGives (It.parseK 9 [m,a]) w):=by
 have N:=Lib.hid (fun w=>rname_t m w hm _ hn)
 have HN:=Lib.hid hn
 clear hn hm
 have hb0:=Lib.hid ((Below.refl w.heap.size w).alloc (Nat.le_refl _) itZ)
 have R0:=Lib.hid (show (w.alloc itZ).heap[w.heap.size]? = some (.cells #[.int .i64 0,.string ⟨#[]⟩,.int .i64 0,.string ⟨#[]⟩,.int .u8 0,.string ⟨#[]⟩,.int .u8 0] 93 (0,0)) from heap_alloc_new _ _)
 have C:=Lib.hid W
 have KC:=Lib.hid (fun w=>rkind_t x w hx 9 hk)
 clear W hk
 go_enter Tryz.func42,Tryz.ntmps42
 go_wp2_with fail
 refine C.out.mono ?_;rintro e w1 ⟨A,c,hc,rfl,hs1,hb1⟩
 have r0:=(hb1.block _ (show w.heap.size<(w.alloc itZ).heap.size by simp)).trans R0.out
 obtain ⟨⟨a0,a1,a2,a3,a4,a5,a6⟩,⟨f0,f1,f2,f3,f4,f5,f6⟩,hy0⟩:=row7 r0
 have Q0:=Lib.hid r0
 have hbW:=Lib.hid (hb0.out.trans (hb1.mono (by simp)))
 clear r0 hb1
 obtain ⟨bk,o,rfl⟩:=strs_addr hs1
 have hbk:=(strs_at hs1 0 (by simp)).1
 have hc00:=at_words hs1
 have n0:=World.new_ne _ _ a0
 have n1:=World.new_ne _ _ hc00
 simp only [List.length_cons] at hc
 have hc01:=strs_2 hs1
 have hc02:=strs_3 hs1
 clear hs1
 go_wp2_with fail
 refine (KC.out _).mono ?_;rintro e w' ⟨rfl,rfl⟩
 go_wp2_with fail
 refine (N.out _).mono ?_;rintro e w' ⟨rfl,rfl⟩
 go_wp2_with fail
 go_region
 go_wp2_with fail
 have HC0:=Lib.hid hc02
 clear hc01 hc02 hc00 n1 a0 a1 a2 a3 a4 a5 a6 f0 f1 f2 f3 f4 f5 f6 n0
 go_loopw [13] (fun i wr=>EndsRel [a] 9 m w1 i wr) (fun i _=>1 - (intOf i).toNat)
 case atStart =>
  refine ⟨0,It.Tp.zero,It.Tp.zero,Nat.zero_le _,rfl,TipsTo.none,?_,?_⟩
  ·exact heap_alloc_new _ _
  ·exact ((Below.refl _ _).alloc (Nat.le_refl _) _).drew
 case round =>
  obtain ⟨j,e0,e1,hj,rfl,hto,hr1,hbel⟩:=hrel
  have hz1:=(row7 hr1).2.2
  have TO:=Lib.hid hto
  have R1:=Lib.hid hr1
  clear hto hr1
  simp only [List.length_cons,List.length_nil] at hj
  by_cases hlt:j<1
  ·obtain rfl:j=0:=by omega
   have hca:wr.cell? ⟨bk,o+2,none⟩ = some (.string (txt a)):=(hbel.cell (p:=⟨bk,o+2,none⟩) hbk).trans HC0.out
   cases hok:It.tipOk a
   ·have TF:=Lib.hid (fun w=>rtip_f a w ha hok)
    have P:=Lib.hid (parseK_9_no (m:=m) hok)
    clear hok
    go_wp2_with fail
    refine (TF.out _).mono ?_;rintro e w2 ⟨rfl,hb1⟩
    have hz2:=hb1.size
    have r1:=(hb1.block _ hz1).trans R1.out
    obtain ⟨⟨b0,b1,b2,b3,b4,b5,b6⟩,⟨g0,g1,g2,g3,g4,g5,g6⟩,hy1⟩:=row7 r1
    have hbT:=Lib.hid (hbel.trans (hb1.mono hbel.size))
    have r0:=(hbT.out.block _ hy0).trans Q0.out
    obtain ⟨⟨a0,a1,a2,a3,a4,a5,a6⟩,⟨f0,f1,f2,f3,f4,f5,f6⟩,hy2⟩:=row7 r0
    have n2:=World.new_ne _ _ b0
    have n3:=World.new_ne _ _ a0
    have U1:=Lib.hid r1
    have hbX:=Lib.hid (hbW.out.trans (hbT.out.mono hbW.out.size))
    clear r1 r0 hb1 hca
    go_wp2_with fail
    refine bodyPost_ret ?_ rfl (ParseGives.no P.out rfl ?_)
    ·simp [results,Tryz.results42,go_sem, *]
    ·(repeat (first | (with_reducible refine Below.setCell ?_ (by first | exact Nat.le_refl _ | (simp;done) | ((try simp);omega)) _) | (with_reducible refine Below.alloc ?_ (by first | (simp;done) | ((try simp);omega)) _) | with_reducible refine Below.drew ?_));exact hbX.out
   ·have TT:=Lib.hid (fun w=>rtip_t a w ha hok)
    have HOK:=Lib.hid hok
    clear hok
    go_wp2_with fail
    refine (TT.out _).mono ?_;rintro e w2 ⟨rfl,hb1⟩
    have hz2:=hb1.size
    have r1:=(hb1.block _ hz1).trans R1.out
    obtain ⟨⟨b0,b1,b2,b3,b4,b5,b6⟩,⟨g0,g1,g2,g3,g4,g5,g6⟩,hy1⟩:=row7 r1
    have hbT:=Lib.hid (hbel.trans (hb1.mono hbel.size))
    have r0:=(hbT.out.block _ hy0).trans Q0.out
    obtain ⟨⟨a0,a1,a2,a3,a4,a5,a6⟩,⟨f0,f1,f2,f3,f4,f5,f6⟩,hy2⟩:=row7 r0
    have n2:=World.new_ne _ _ b0
    have n3:=World.new_ne _ _ a0
    have U1:=Lib.hid r1
    have hbX:=Lib.hid (hbW.out.trans (hbT.out.mono hbW.out.size))
    clear r1 r0 hb1 hca
    go_wp2_with fail
    go_roundw
    case rel =>
     refine ⟨0+1,(It.tip a),e1,by simp,by go_num,tipsTo_0' rfl HOK.out TO.out,?_,?_⟩
     ·exact (row_alloc (by simp;omega) _).trans (heap_setCell_same _ _ _ _ _ _ (heap_setCell_same _ _ _ _ _ _ U1.out))
     ·exact ((hbT.out.setCell (Nat.le_refl _) _).setCell (Nat.le_refl _) _).alloc (by simp;omega) _
    case measure=>simp [intOf]
  ·obtain rfl:j=1:=by omega
   have P:=Lib.hid (parseK_9_yes HN.out TO.out)
   obtain ⟨⟨b0,b1,b2,b3,b4,b5,b6⟩,⟨g0,g1,g2,g3,g4,g5,g6⟩,hy1⟩:=row7 R1.out
   have r0:=(hbel.block _ hy0).trans Q0.out
   obtain ⟨⟨a0,a1,a2,a3,a4,a5,a6⟩,⟨f0,f1,f2,f3,f4,f5,f6⟩,hy2⟩:=row7 r0
   have hbX:=Lib.hid (hbW.out.trans (hbel.mono hbW.out.size))
   clear r0
   go_wp2_with fail
   refine bodyPost_ret ?_ rfl (ParseGives.yes P.out rfl ?_)
   ·simp [results,Tryz.results42,go_sem, *] <;> (repeat' (first | exact rfl | apply And.intro))
   ·(repeat (first | (with_reducible refine Below.setCell ?_ (by first | exact Nat.le_refl _ | (simp;done) | ((try simp);omega)) _) | (with_reducible refine Below.alloc ?_ (by first | (simp;done) | ((try simp);omega)) _) | with_reducible refine Below.drew ?_));exact hbX.out
theorem rp_all (k:Int) (s:ByteArray) (x:List UInt8) (T:List (List UInt8)) (w:World) (W:HasWords s x T w) (hk:It.kind x=k) (hx:x.length≤1000000) (hT:∀ y∈T,y.length≤1000000) (hTl:T.length≤1000000) (h0:0≤k) (h9:k≤9) :
 Calls Tryz.prog 42 #[.string s] w (ParseGives (It.parseK k T) w):=by
 obtain rfl | rfl | rfl | rfl | rfl | rfl | rfl | rfl | rfl | rfl:k=0∨k=1∨k=2∨k=3∨k=4∨k=5∨k=6∨k=7∨k=8∨k=9:=by omega
 ·exact rp_0 s x T hTl w W hk hx
 ·by_cases h:T.length=1
  ·obtain ⟨d,rfl⟩:=List.length_eq_one_iff.1 h
   exact rp_num_one (by omega) s x d (hT d (by simp)) w W hk hx
  ·exact rp_num_many (by omega) s x T hTl h w W hk hx
 ·by_cases h:T.length=1
  ·obtain ⟨d,rfl⟩:=List.length_eq_one_iff.1 h
   exact rp_num_one (by omega) s x d (hT d (by simp)) w W hk hx
  ·exact rp_num_many (by omega) s x T hTl h w W hk hx
 ·by_cases h:T.length=1
  ·obtain ⟨d,rfl⟩:=List.length_eq_one_iff.1 h
   exact rp_tick_one (by omega) s x d (hT d (by simp)) w W hk hx
  ·exact rp_num_many (by omega) s x T hTl h w W hk hx
 ·by_cases h:T.length=1
  ·obtain ⟨d,rfl⟩:=List.length_eq_one_iff.1 h
   exact rp_tick_one (by omega) s x d (hT d (by simp)) w W hk hx
  ·exact rp_num_many (by omega) s x T hTl h w W hk hx
 ·match T with
  | []=>exact rp_name_nil (by omega) s x w W hk hx
  | m :: T =>
    have hm:=hT m (by simp)
    have hTl':T.length≤1000000:=by simp at hTl;omega
    cases hn:Fig.nameB m
    ·exact rp_name_bad (by omega) s x m T hm hTl' hn w W hk hx
    ·by_cases h:T.length=1
     ·obtain ⟨d,rfl⟩:=List.length_eq_one_iff.1 h
      exact rp_len_one (by omega) s x m d hm (hT d (by simp)) hn w W hk hx
     ·exact rp_name_many (by omega) s x m T hm hTl' hn h w W hk hx
 ·match T with
  | []=>exact rp_name_nil (by omega) s x w W hk hx
  | m :: T =>
    have hm:=hT m (by simp)
    have hTl':T.length≤1000000:=by simp at hTl;omega
    cases hn:Fig.nameB m
    ·exact rp_name_bad (by omega) s x m T hm hTl' hn w W hk hx
    ·by_cases h:T.length=1
     ·obtain ⟨d,rfl⟩:=List.length_eq_one_iff.1 h
      exact rp_len_one (by omega) s x m d hm (hT d (by simp)) hn w W hk hx
     ·exact rp_name_many (by omega) s x m T hm hTl' hn h w W hk hx
 ·by_cases h:T.length=2
  ·obtain ⟨a,b,rfl⟩:∃ a b,T=[a,b]:=by
    match T,h with
    | [a,b],_=>exact ⟨a,b,rfl⟩
   exact rp_7_one s x a b (hT a (by simp)) (hT b (by simp)) w W hk hx
  ·exact rp_7_many s x T hTl h w W hk hx
 ·by_cases h:T.length=1
  ·obtain ⟨a,rfl⟩:=List.length_eq_one_iff.1 h
   exact rp_8_one s x a (hT a (by simp)) w W hk hx
  ·exact rp_num_many (by omega) s x T hTl h w W hk hx
 ·match T with
  | []=>exact rp_name_nil (by omega) s x w W hk hx
  | m :: T =>
    have hm:=hT m (by simp)
    have hTl':T.length≤1000000:=by simp at hTl;omega
    cases hn:Fig.nameB m
    ·exact rp_name_bad (by omega) s x m T hm hTl' hn w W hk hx
    ·by_cases h:T.length=1
     ·obtain ⟨a,rfl⟩:=List.length_eq_one_iff.1 h
      exact rp_9_one s x m a hm (hT a (by simp)) hn w W hk hx
     ·exact rp_name_many (by omega) s x m T hm hTl' hn h w W hk hx
theorem riparse_any (s:ByteArray) (w:World) (hs:s.size≤1000000) :
 Calls Tryz.prog 42 #[.string s] w (ParseGives (It.parse s.data.toList) w):=by
 have W:=rwords_any s (w.alloc itZ) hs
 cases hws:Ln.ws true s.data.toList
 ·have hb0:=Lib.hid ((Below.refl w.heap.size w).alloc (Nat.le_refl _) itZ)
  have R0:=Lib.hid (show (w.alloc itZ).heap[w.heap.size]? = some (.cells #[.int .i64 0,.string ⟨#[]⟩,.int .i64 0,.string ⟨#[]⟩,.int .u8 0,.string ⟨#[]⟩,.int .u8 0] 93 (0,0)) from heap_alloc_new _ _)
  have P:=Lib.hid (parse_none hws)
  rw [Ln.words,hws] at W
  have C:=Lib.hid W
  clear W hws
  go_enter Tryz.func42,Tryz.ntmps42
  go_wp2_with fail
  refine C.out.mono ?_;rintro e w1 ⟨A,c,hc,rfl,hs1,hb1⟩
  have r0:=(hb1.block _ (show w.heap.size<(w.alloc itZ).heap.size by simp)).trans R0.out
  obtain ⟨⟨a0,a1,a2,a3,a4,a5,a6⟩,⟨f0,f1,f2,f3,f4,f5,f6⟩,hy0⟩:=row7 r0
  have Q0:=Lib.hid r0
  have hbW:=Lib.hid (hb0.out.trans (hb1.mono (by simp)))
  clear r0 hb1
  go_wp2_with fail
  refine bodyPost_ret ?_ rfl (ParseGives.no P.out rfl ?_)
  ·simp [results,Tryz.results42,go_sem, *]
  ·(repeat (with_reducible refine Below.setCell ?_ (by first | exact Nat.le_refl _ | exact Nat.le_succ _) _));exact hbW.out
 ·obtain ⟨hl,hne⟩:=Ln.line_words _ hws
  have hle:=words_le _ hws
  obtain ⟨x,T,hL⟩:∃ x T,Ln.words s.data.toList=x :: T:=by
   cases hw:Ln.words s.data.toList with
   | nil=>exact absurd hw hne
   | cons x T=>exact ⟨x,T,rfl⟩
  rw [hL] at hle
  have hsz:s.data.toList.length=s.size:=by simp
  have hTl:T.length≤1000000:=by
   have:=words_len s.data.toList
   rw [hL] at this;simp at this;omega
  have hkb:=kind_bd x
  rw [parse_some hws hL rfl]
  rw [hL,hws] at W
  exact rp_all _ s x T w W rfl (by have:=hle x (by simp);omega) (fun y hy=>by have:=hle y (by simp [hy]);omega) hTl hkb.1 hkb.2
theorem eq_tip_in (W:World) (d:Nat) (a b:ByteArray) (i j:Int) :
 Sem.run Tryz.prog (Op.equalIn (d+2) 90 (.agg #[.string a,.int .u8 i]) (.agg #[.string b,.int .u8 j])) W=.ok (a.toList == b.toList && i == j) W:=by
 cases h1:a.toList == b.toList <;> cases h2:i == j <;> go_simp
theorem ctip:Tryz.prog.cellsOf 90=2:=by kernel_rfl
theorem part_tip0 (W:World) (x y z u:Value):Sem.run Tryz.prog (part 90 #[x,y,z,u] 0) W=.ok (.agg #[x,y]) W:=by
 simp [part,isAgg,run_underlying Tryz.underlying90]
theorem part_tip2 (W:World) (x y z u:Value):Sem.run Tryz.prog (part 90 #[x,y,z,u] 2) W=.ok (.agg #[z,u]) W:=by
 simp [part,isAgg,run_underlying Tryz.underlying90]
def endsB (a b a' b':ByteArray) (i j i' j':Int):Bool:=(a.toList == b.toList && i == j) && (a'.toList == b'.toList && i' == j')
theorem eq_ends_in (W:World) (d:Nat) (a b a' b':ByteArray) (i j i' j':Int) :
 Sem.run Tryz.prog (Op.equalIn (d+3) 91 (.agg #[.string a,.int .u8 i,.string a',.int .u8 i']) (.agg #[.string b,.int .u8 j,.string b',.int .u8 j'])) W=.ok (endsB a b a' b' i j i' j') W:=by
 obtain ⟨inf,hi⟩:=info_of_underlying (P:=Tryz.prog) Tryz.underlying90
 rw [run_equalIn_array W (d+2) _ _ Tryz.underlying91 hi,ctip]
 have T1:=eq_tip_in W d a b i j
 have T2:=eq_tip_in W d a' b' i' j'
 unfold endsB
 generalize (a.toList == b.toList && i == j)=p at T1 ⊢
 generalize (a'.toList == b'.toList && i' == j')=q at T2 ⊢
 cases p <;> cases q <;> simp [Op.eqItems,List.range,List.range.loop,part_tip0,part_tip2,T1,T2]
def itemB (k k':Int) (nm nm':ByteArray) (n n':Int) (e:Bool):Bool:=k == k' && (nm.toList == nm'.toList && (n == n' && e))
theorem eq_item_in (W:World) (d:Nat) (k k':Int) (nm nm':ByteArray) (n n':Int) (a b a' b':ByteArray) (i j i' j':Int) :
 Sem.run Tryz.prog (Op.equalIn (d+4) 93 (.agg #[.int .i64 k,.string nm,.int .i64 n,.string a,.int .u8 i,.string a',.int .u8 i']) (.agg #[.int .i64 k',.string nm',.int .i64 n',.string b,.int .u8 j,.string b',.int .u8 j'])) W=.ok (itemB k k' nm nm' n n' (endsB a b a' b' i j i' j')) W:=by
 have E:=eq_ends_in W d a b a' b' i j i' j'
 generalize endsB a b a' b' i j i' j'=p at E ⊢
 unfold itemB
 cases h1:k == k' <;> cases h2:nm.toList == nm'.toList <;> cases h3:n == n' <;> cases p <;> go_simp
theorem eq_item (W:World) (k k':Int) (nm nm':ByteArray) (n n':Int) (a b a' b':ByteArray) (i j i' j':Int) :
 Sem.run Tryz.prog (Op.equalIn 10000 93 (.agg #[.int .i64 k,.string nm,.int .i64 n,.string a,.int .u8 i,.string a',.int .u8 i']) (.agg #[.int .i64 k',.string nm',.int .i64 n',.string b,.int .u8 j,.string b',.int .u8 j'])) W=.ok (itemB k k' nm nm' n n' (endsB a b a' b' i j i' j')) W :=
 eq_item_in W 9996 k k' nm nm' n n' a b a' b' i j i' j'
theorem itemB_eq (y z:It.Itm):itemB y.k z.k (txt y.name) (txt z.name) y.n z.n (endsB (txt y.e0.n) (txt z.e0.n) (txt y.e1.n) (txt z.e1.n) y.e0.c.toNat z.e0.c.toNat y.e1.c.toNat z.e1.c.toNat)=decide (y=z):=by
 rw [Bool.eq_iff_iff]
 obtain ⟨k,nm,n,⟨a,ac⟩,⟨b,bc⟩⟩:=y
 obtain ⟨k',nm',n',⟨a',ac'⟩,⟨b',bc'⟩⟩:=z
 have e:∀ x y:UInt8,((x.toNat:Int)=y.toNat ↔ x=y):=fun x y=>⟨fun h=>UInt8.toNat_inj.mp (by omega),fun h=>by rw[h]⟩
 simp [itemB,endsB,toList_txt,e,and_assoc]
theorem dec_comm (x y:It.Itm):decide (x=y)=decide (y=x):=by
 rw [Bool.eq_iff_iff,decide_eq_true_iff,decide_eq_true_iff]
 exact ⟨Eq.symm,Eq.symm⟩
theorem bin_item' (W:World) (y:It.Itm) (k:Int) (nm:ByteArray) (n:Int) (a:ByteArray) (ac:UInt8) (b:ByteArray) (bc:UInt8) :
 Sem.run Tryz.prog (binOp .eql 93 (.agg #[.int .i64 k,.string nm,.int .i64 n,.string a,.int .u8 ac.toNat,.string b,.int .u8 bc.toNat]) (.agg #[.int .i64 y.k,.string (txt y.name),.int .i64 y.n,.string (txt y.e0.n),.int .u8 y.e0.c.toNat,.string (txt y.e1.n),.int .u8 y.e1.c.toNat])) W=.ok (.bool (decide (y=ofV k nm n a ac b bc))) W:=by
 have h:=eq_item W k y.k nm (txt y.name) n y.n a (txt y.e0.n) b (txt y.e1.n) ac.toNat y.e0.c.toNat bc.toNat y.e1.c.toNat
 have e:=itemB_eq (ofV k nm n a ac b bc) y
 simp only [ofV,txt_of] at e
 rw [run_eql_struct,h,e,Result.andThen_ok]
 exact congrArg (fun b=>Result.ok (Value.bool b) W) (dec_comm _ _)
theorem print_le (k:Int) (nm:ByteArray) (n:Int) (a:ByteArray) (ac:UInt8) (b:ByteArray) (bc:UInt8) (h0:0≤n) (h1:n≤9223372036854775807) (hn:nm.size≤1000) (ha:a.size≤1000) (hb:b.size≤1000):(It.print (ofV k nm n a ac b bc)).length≤1000000:=by
 have hw:=word_le k
 have hd:=dec_l20 h0 h1
 by_cases e1:It.isNum k=true
 ·rw[print_num e1];simp [Ln.line,Lib.join];omega
 by_cases e2:It.isLen k=true
 ·rw[print_len (len_num e2) e2];simp [Ln.line,Lib.join];omega
 by_cases e3:k=7
 ·subst e3;rw[print_7];simp [Ln.line,Lib.join,It.tipT];omega
 by_cases e4:k=8
 ·subst e4;rw[print_8];simp [Ln.line,Lib.join,It.tipT];omega
 by_cases e5:k=9
 ·subst e5;rw[print_9];simp [Ln.line,Lib.join,It.tipT];omega
 ·rw[ofV_k _ _ _ _ _ _ _ (by simp [It.isNum] at e1;simp [It.isLen] at e2;omega)];simp
theorem riright_any (k:Int) (nm:ByteArray) (n:Int) (a:ByteArray) (ac:UInt8) (b:ByteArray) (bc:UInt8) (w:World) (h1:n≤9223372036854775807) (hn:nm.size≤1000) (ha:a.size≤1000) (hb:b.size≤1000) :
 Calls Tryz.prog 43 #[.agg #[.int .i64 k,.string nm,.int .i64 n,.string a,.int .u8 ac.toNat,.string b,.int .u8 bc.toNat]] w fun e w'=>e=.returned (.bool (It.right (ofV k nm n a ac b bc)))∧Below w.heap.size w w':=by
 have hb0:=Lib.hid ((Below.refl w.heap.size w).alloc (Nat.le_refl _) (.cells #[.int .i64 k,.string nm,.int .i64 n,.string a,.int .u8 ac.toNat,.string b,.int .u8 bc.toNat] 93))
 have R0:=Lib.hid (show (w.alloc (.cells #[.int .i64 k,.string nm,.int .i64 n,.string a,.int .u8 ac.toNat,.string b,.int .u8 bc.toNat] 93)).heap[w.heap.size]? = some (.cells #[.int .i64 k,.string nm,.int .i64 n,.string a,.int .u8 ac.toNat,.string b,.int .u8 bc.toNat] 93 (0,0)) from heap_alloc_new _ _)
 by_cases h0:n<0
 ·have P:=Lib.hid (show It.right (ofV k nm n a ac b bc)=false by
   rw [It.right,dec_f (show ¬ 0≤(ofV k nm n a ac b bc).n by show ¬ 0≤n;omega)];rfl)
  have h0':decide (n<0)=true:=dec_t h0
  clear h1 hn ha hb h0
  go_enter Tryz.func43,Tryz.ntmps43
  go_wp2_with fail
  go_ret
  exact ⟨retB P.out.symm,hb0.out⟩
 ·have h0':decide (n<0)=false:=dec_f h0
  have hle:=print_le k nm n a ac b bc (by omega) h1 hn ha hb
  have C:=Lib.hid (riprint_any k nm n a ac b bc (w.alloc (.cells #[.int .i64 k,.string nm,.int .i64 n,.string a,.int .u8 ac.toNat,.string b,.int .u8 bc.toNat] 93)) (by omega) h1 hn ha hb)
  have PC:=Lib.hid (fun w=>riparse_any (txt (It.print (ofV k nm n a ac b bc))) w (by rw[txt_size];exact hle))
  have HN:=Lib.hid (show decide (0≤(ofV k nm n a ac b bc).n)=true from dec_t (show 0≤n by omega))
  clear h1 hn ha hb h0 hle
  go_enter Tryz.func43,Tryz.ntmps43
  go_wp2_with fail
  refine C.out.mono ?_;rintro e w1 ⟨rfl,hb1⟩
  have r0:=(hb1.block _ (show w.heap.size<(w.alloc (.cells #[.int .i64 k,.string nm,.int .i64 n,.string a,.int .u8 ac.toNat,.string b,.int .u8 bc.toNat] 93)).heap.size by simp)).trans R0.out
  have hy0:=(row7 r0).2.2
  have Q0:=Lib.hid r0
  have hbW:=Lib.hid (hb0.out.trans (hb1.mono (by simp)))
  clear r0 hb1
  go_wp2_with fail
  refine (PC.out _).mono ?_;rintro e w2 ⟨y,rfl,hyy,hb2⟩
  rw [txt_toList] at hyy ⊢
  have r0:=(hb2.block _ hy0).trans Q0.out
  obtain ⟨⟨a0,a1,a2,a3,a4,a5,a6⟩,⟨f0,f1,f2,f3,f4,f5,f6⟩,hy1⟩:=row7 r0
  have n0:=World.new_ne _ _ a0
  have hbX:=Lib.hid (hbW.out.trans (hb2.mono hbW.out.size))
  clear r0 hb2
  cases hpk:It.parse (It.print (ofV k nm n a ac b bc)) with
  | none =>
    have P:=Lib.hid (show It.right (ofV k nm n a ac b bc)=false by rw[It.right,HN.out,hpk];rfl)
    clear hpk hyy
    rw [Option.isSome_none]
    go_wp2_with fail
    go_ret
    exact ⟨retB P.out.symm,hbX.out.alloc (by omega) _⟩
  | some z =>
    rw [hpk] at hyy
    obtain rfl:y=z:=hyy
    have P:=Lib.hid (show It.right (ofV k nm n a ac b bc)=decide (y=ofV k nm n a ac b bc) by rw[It.right,HN.out,hpk,Bool.true_and];simp)
    clear hpk
    rw [Option.isSome_some]
    have Q:=fun W=>bin_item' W y k nm n a ac b bc
    go_wp2_with fail
    go_ret
    exact ⟨retB P.out.symm,hbX.out.alloc (by omega) _⟩
theorem stay_row {w w':World} {b:Nat} {r:Obj} (h:w.heap[b]? = some r) (hb:Below w.heap.size w w'):w'.heap[b]? = some r:=by
 rw [hb.block b (Array.getElem?_eq_some_iff.1 h).1,h]
theorem row2 {w:World} {g:Nat} {a b:Value} {t:TypeId} (h:w.heap[g]? = some (.cells #[a,b] t (0,0))):(w.cell? ⟨g,0,none⟩ = some a∧w.cell? ⟨g,1,none⟩ = some b)∧g<w.heap.size :=
 ⟨⟨cell_of_row w g 0 _ t _ h,cell_of_row w g 1 _ t _ h⟩,(Array.getElem?_eq_some_iff.1 h).1⟩
theorem dig_back {c:UInt8} (h:Fig.dig c=true):UInt8.ofNat (48+((c.toNat:Int) - 48).toNat)=c:=by
 have:=dig_bd h
 apply UInt8.toNat_inj.mp
 rw [UInt8.toNat_ofNat']
 omega
theorem back_rev:∀ (r:List UInt8),r≠[]→r.all Fig.dig=true→r.reverse.head? ≠ some 48→1≤Fig.val r.reverse∧Lib.decDigits (Fig.val r.reverse).toNat=r.reverse:=by
 intro r
 induction r with
 | nil=>intro h;exact absurd rfl h
 | cons c r ih =>
   intro _ hd hh
   simp only [List.all_cons,Bool.and_eq_true] at hd
   have hb:=dig_bd hd.1
   rw [List.reverse_cons,Fig.val_snoc]
   cases r with
   | nil =>
     have hc:c≠48:=by simpa using hh
     have hc2:c.toNat≠48:=by
      intro h;apply hc;exact UInt8.toNat_inj.mp h
     have hv:Fig.val ([]:List UInt8).reverse=0:=rfl
     rw [hv]
     refine ⟨by omega,?_⟩
     rw [Lib.decDigits,dif_pos (by omega)]
     have:=dig_back hd.1
     simp only [List.reverse_nil,List.nil_append]
     rw [show (10 * 0+((c.toNat:Int) - 48)).toNat=((c.toNat:Int) - 48).toNat by omega,this]
   | cons x xs =>
     have h2:=ih (by simp) hd.2 (by
      intro h;apply hh
      rw [List.reverse_cons]
      cases hx:(x :: xs).reverse with
      | nil=>simp at hx
      | cons y ys=>rw[hx] at h;simpa using h)
     refine ⟨by omega,?_⟩
     rw [Lib.decDigits,dif_neg (by omega)]
     rw [show (10 * Fig.val (x :: xs).reverse+((c.toNat:Int) - 48)).toNat / 10=(Fig.val (x :: xs).reverse).toNat by omega,h2.2]
     rw [show (10 * Fig.val (x :: xs).reverse+((c.toNat:Int) - 48)).toNat % 10=((c.toNat:Int) - 48).toNat by omega,dig_back hd.1]
theorem form_back (l:List UInt8) (h:Fig.form l=true):Lib.decDigits (Fig.val l).toNat=l:=by
 simp only [Fig.form,Bool.and_eq_true,decide_eq_true_eq,Bool.not_eq_true'] at h
 obtain ⟨⟨⟨h1,_⟩,hp⟩,hd⟩:=h
 by_cases h48:l.head? = some 48
 ·have hl:¬ 1<l.length:=by
   intro hl
   rw [Fig.pad,h48,show decide (1<l.length)=true from decide_eq_true hl] at hp
   exact absurd hp (by decide)
  match l,h1,hl,h48 with
  | [c],_,_,h48 =>
    obtain rfl:c=48:=by simpa using h48
    rw [show Fig.val [48]=0 from rfl,Lib.decDigits,dif_pos (by decide)];rfl
  | _ :: _ :: _,_,hl,_=>simp at hl
  | [],h1,_,_=>simp at h1
 ·have:=(back_rev l.reverse (by intro h;rw[List.reverse_eq_nil_iff] at h;subst h;simp at h1) (by simpa using hd) (by simpa using h48)).2
  simpa using this
open Go.ChangeShapes Go.WideShapes Go.ChangeAt Go.RowKit
theorem num_back:It.NumBack:=fun d m h=>by
 have hN:Fig.parseN d m=Fig.val d:=by rw[Fig.parseN,if_pos h]
 rw [Fig.parseB,Bool.and_eq_true] at h
 have hd:d.all Fig.dig=true:=by
  have:=h.1
  rw [Fig.form,Bool.and_eq_true] at this
  exact this.2
 rw [hN]
 exact ⟨(Fig.val_bd d hd).1,form_back d h.1⟩
def ItemLe (B:Nat) (y:It.Itm):Prop:=y.name.length≤B∧y.n≤1099511627776∧y.e0.n.length≤B∧y.e1.n.length≤B
theorem tip_le {B:Nat} {a:List UInt8} (h:a.length≤B):(It.tip a).n.length≤B:=by
 unfold It.tip
 split
 ·simp;omega
 ·simp [It.Tp.zero]
theorem parseN_le {d:List UInt8} {m:Int} (h:Fig.parseB d m=true):Fig.parseN d m≤m:=by
 rw [Fig.parseN,if_pos h]
 rw [Fig.parseB,Bool.and_eq_true,decide_eq_true_iff] at h
 exact h.2
theorem most_le (k:Int):It.most k≤1099511627776:=by
 unfold It.most;repeat (split;· decide)
 decide
theorem parseK_le {B:Nat} {k:Int} {T:List (List UInt8)} {y:It.Itm} (hT:∀ t∈T,t.length≤B) (h:It.parseK k T=some y):ItemLe B y:=by
 unfold It.parseK at h
 split at h
 ·split at h
  ·split at h
   ·rename_i d hp
    cases h
    have:=parseN_le hp
    have:=most_le k
    exact ⟨by simp,by show Fig.parseN d (It.most k)≤_;omega,by simp [It.Tp.zero],by simp [It.Tp.zero]⟩
   ·cases h
  ·cases h
 ·split at h
  ·split at h
   ·split at h
    ·rename_i m d hp
     cases h
     simp only [Bool.and_eq_true] at hp
     exact ⟨hT m (by simp),parseN_le hp.1.2,by simp [It.Tp.zero],by simp [It.Tp.zero]⟩
    ·cases h
   ·cases h
  ·split at h
   ·split at h
    ·split at h
     ·rename_i a b hp
      cases h
      exact ⟨by simp,by simp,tip_le (hT a (by simp)),tip_le (hT b (by simp))⟩
     ·cases h
    ·cases h
   ·split at h
    ·split at h
     ·split at h
      ·rename_i a hp
       cases h
       exact ⟨by simp,by simp,tip_le (hT a (by simp)),by simp [It.Tp.zero]⟩
      ·cases h
     ·cases h
    ·split at h
     ·split at h
      ·split at h
       ·rename_i m a hp
        cases h
        exact ⟨hT m (by simp),by simp,tip_le (hT a (by simp)),by simp [It.Tp.zero]⟩
       ·cases h
      ·cases h
     ·cases h
theorem parse_le {l:List UInt8} {y:It.Itm} (h:It.parse l=some y):ItemLe l.length y:=by
 unfold It.parse at h
 split at h
 ·rename_i hw
  have hle:=words_le l hw
  cases hW:Ln.words l with
  | nil=>rw[hW] at h;cases h
  | cons x T =>
    rw [hW] at h hle
    exact parseK_le (fun t ht=>hle t (by simp [ht])) h
 ·cases h
theorem ofV_txt (y:It.Itm):ofV y.k (txt y.name) y.n (txt y.e0.n) y.e0.c (txt y.e1.n) y.e1.c=y:=by simp [ofV,txt_toList]
def cells7 (y:It.Itm):List Value:=[.int .i64 y.k,.string (txt y.name),.int .i64 y.n,.string (txt y.e0.n),.int .u8 y.e0.c.toNat,.string (txt y.e1.n),.int .u8 y.e1.c.toNat]
def cellsL (L:List It.Itm):List Value:=L.flatMap cells7
theorem cellsL_append (a b:List It.Itm):cellsL (a++b)=cellsL a++cellsL b:=by simp [cellsL]
theorem cellsL_one (y:It.Itm):cellsL [y]=cells7 y:=by simp [cellsL]
theorem cellsL_cons (y:It.Itm) (L:List It.Itm):cellsL (y :: L)=cells7 y++cellsL L:=by simp [cellsL]
theorem cells7_length (y:It.Itm):(cells7 y).length=7:=rfl
theorem cellsL_length:∀ L:List It.Itm,(cellsL L).length=L.length * 7
 | []=>rfl
 | y :: L=>by rw[cellsL_cons,List.length_append,cellsL_length L,cells7_length,List.length_cons];omega
theorem cellsL_at:∀ (L:List It.Itm) (k j:Nat) (y:It.Itm),L[k]? = some y→j<7→(cellsL L)[k * 7+j]? = (cells7 y)[j]?
 | [],_,_,_,h,_=>by simp at h
 | x :: L,0,j,y,h,hj=>by
   obtain rfl:x=y:=by simpa using h
   rw [cellsL_cons,List.getElem?_append_left (by rw[cells7_length];omega)]
   congr 1;omega
 | x :: L,k+1,j,y,h,hj=>by
   rw [cellsL_cons,List.getElem?_append_right (by rw[cells7_length];omega),cells7_length]
   rw [show (k+1) * 7+j - 7=k * 7+j by omega]
   exact cellsL_at L k j y (by simpa using h) hj
theorem cells7_one (y:It.Itm):∀ u∈cells7 y,u.oneCell'=true:=fun u hu=>by
 simp [cells7] at hu
 rcases hu with rfl | rfl | rfl | rfl | rfl | rfl | rfl <;> rfl
def It7 (w:World) (b o:Nat) (y:It.Itm):Prop:=∀ j v,(cells7 y)[j]? = some v→w.cell? ⟨b,o+j,none⟩ = some v
theorem It7.cells {w:World} {b o:Nat} {y:It.Itm} (h:It7 w b o y) :
 w.cell? ⟨b,o,none⟩ = some (.int .i64 y.k)∧w.cell? ⟨b,o+1,none⟩ = some (.string (txt y.name))∧w.cell? ⟨b,o+2,none⟩ = some (.int .i64 y.n)∧w.cell? ⟨b,o+3,none⟩ = some (.string (txt y.e0.n))∧w.cell? ⟨b,o+4,none⟩ = some (.int .u8 y.e0.c.toNat) ∧
  w.cell? ⟨b,o+5,none⟩ = some (.string (txt y.e1.n))∧w.cell? ⟨b,o+6,none⟩ = some (.int .u8 y.e1.c.toNat) :=
 ⟨h 0 _ rfl,h 1 _ rfl,h 2 _ rfl,h 3 _ rfl,h 4 _ rfl,h 5 _ rfl,h 6 _ rfl⟩
def Its (w:World) (A:Option Addr) (L:List It.Itm):Prop :=
 L=[]∨∃ b o,A=some ⟨b,o,none⟩∧b<w.heap.size∧∀ k y,L[k]? = some y→It7 w b (o+k * 7) y
theorem Its.nil (w:World) (A:Option Addr):Its w A []:=.inl rfl
theorem Its.below {w w':World} {A:Option Addr} {L:List It.Itm} {B:Nat} (h:Its w A L) (hB:B=w.heap.size) (hb:Below B w w'):Its w' A L:=by
 subst hB
 rcases h with h | ⟨b,o,hA,hlt,h⟩
 ·exact .inl h
 ·have:=hb.size
  exact .inr ⟨b,o,hA,by omega,fun k y hk j v hv=>by rw[hb.cell (show (⟨b,o+k * 7+j,none⟩:Addr).block<w.heap.size from hlt)];exact h k y hk j v hv⟩
theorem Its.at {w:World} {A:Option Addr} {L:List It.Itm} (h:Its w A L) {k:Nat} (hk:k<L.length):∃ b o,A=some ⟨b,o,none⟩∧b<w.heap.size∧It7 w b (o+k * 7) L[k]:=by
 rcases h with rfl | ⟨b,o,hA,hlt,h⟩
 ·simp at hk
 ·exact ⟨b,o,hA,hlt,h k _ (List.getElem?_eq_getElem hk)⟩
theorem Its.of_own {w:World} {base:Nat} {e:TypeId} {v:Value} {n:Nat} {L:List It.Itm} (h:w.ownsRow base e 7 v n (cellsL L)) :
 n=L.length∧∃ A c,v=.slice A n c∧n≤c∧Its w A L:=by
 have hl:L.length=n:=by have:=h.1;rw[cellsL_length] at this;omega
 refine ⟨hl.symm,?_⟩
 rcases h.2 with ⟨rfl,rfl⟩ | ⟨g,cap,cur,rfl,_,hh,hc,_⟩
 ·exact ⟨none,0,rfl,Nat.le_refl _,.inl (List.eq_nil_of_length_eq_zero hl)⟩
 ·refine ⟨some ⟨g,0,none⟩,cap,rfl,hc,.inr ⟨g,0,rfl,(Array.getElem?_eq_some_iff.1 hh).1,fun k y hk j u hu=>?_⟩⟩
  have hj:j<7:=by
   have:=(List.getElem?_eq_some_iff.1 hu).1
   rwa [cells7_length] at this
  have:=h.cells (g:=g) rfl (k * 7+j) u (by rw[cellsL_at L k j y hk hj];exact hu)
  rw [Go.WideShapes.add_plain] at this
  rw [show 0+k * 7+j=0+(k * 7+j) by omega]
  exact this
theorem Its.news {w:World} {b o:Nat} {L:List It.Itm} (h:∀ k y,L[k]? = some y→It7 w b (o+k * 7) y):∀ j u,(cellsL L)[j]? = some u→w.cell? ((⟨b,o,none⟩:Addr).add j)=some u:=fun j u hu=>by
 have hl:=(List.getElem?_eq_some_iff.1 hu).1
 rw [cellsL_length] at hl
 have hk:j / 7<L.length:=by omega
 have e:=cellsL_at L (j / 7) (j % 7) _ (List.getElem?_eq_getElem hk) (Nat.mod_lt _ (by omega))
 rw [show j / 7 * 7+j % 7=j by omega,hu] at e
 rw [Go.WideShapes.add_plain]
 have:=h (j / 7) _ (List.getElem?_eq_getElem hk) (j % 7) u e.symm
 rwa [show o+j / 7 * 7+j % 7=o+j by omega] at this
abbrev itemV (y:It.Itm):Value:=.agg #[.int .i64 y.k,.string (txt y.name),.int .i64 y.n,.string (txt y.e0.n),.int .u8 y.e0.c.toNat,.string (txt y.e1.n),.int .u8 y.e1.c.toNat]
theorem infoItem:(Tryz.prog.info? 93).map (fun i=>(i.zero,i.size,i.bytes))=some (some (.agg #[.int .i64 0,.string ⟨#[]⟩,.int .i64 0,.string ⟨#[]⟩,.int .u8 0,.string ⟨#[]⟩,.int .u8 0]),7,80):=by kernel_rfl
def faultV (n:Nat):Value:=if n=0 then .agg #[.int .i64 0,.int .i64 0] else .agg #[.int .i64 2,.int .i64 n]
def SheetGives (p:List It.Itm × Nat) (w:World) (e:Ending) (w':World):Prop :=
 ∃ A c,p.1.length≤c∧e=.returned (.tuple #[.slice A p.1.length c,faultV p.2])∧Its w' A p.1∧Below w.heap.size w w'
theorem SheetGives.bad {p:List It.Itm × Nat} {w w':World} {e:Ending} (k:Nat) (hp:p=([],k+1)) (he:e=.returned (.tuple #[.slice none 0 0,.agg #[.int .i64 2,.int .i64 ((k:Int)+1)]])) (hb:Below w.heap.size w w'):SheetGives p w e w':=by
 subst hp;exact ⟨none,0,Nat.le_refl _,by rw[he,faultV,if_neg (by omega)];simp,.inl rfl,hb⟩
theorem SheetGives.good {p:List It.Itm × Nat} {w w':World} {e:Ending} {A:Option Addr} {n c:Nat} {L:List It.Itm} (hp:p=(L,0)) (hn:n=L.length) (hc:n≤c) (he:e=.returned (.tuple #[.slice A n c,.agg #[.int .i64 0,.int .i64 0]])) (hs:Its w' A L) (hb:Below w.heap.size w w'):SheetGives p w e w':=by
 subst hp hn;exact ⟨A,c,hc,by rw[he];rfl,hs,hb⟩
theorem row2f {w:World} {g:Nat} {a b:Value} {t:TypeId} (h:w.heap[g]? = some (.cells #[a,b] t (0,0))) :
 (w.cell? ⟨g,0,none⟩ = some a∧w.cell? ⟨g,1,none⟩ = some b)∧(w.frozen? ⟨g,0,none⟩ = false∧w.frozen? ⟨g,1,none⟩ = false)∧g<w.heap.size :=
 ⟨⟨cell_of_row w g 0 _ t _ h,cell_of_row w g 1 _ t _ h⟩,⟨frozen_of_row w g 0 _ t h,frozen_of_row w g 1 _ t h⟩,(Array.getElem?_eq_some_iff.1 h).1⟩
theorem good_t {wh:Bool} {L:List (List UInt8)} {k:Nat} (hk:k<L.length) {y:It.Itm} (hy:It.parse L[k]=some y) (h:wh=true∨k+1<L.length):Sh.good wh L k=true:=by
 rw [Sh.good_iff hk,hy]
 rcases h with rfl | h
 ·rfl
 ·rw[decide_eq_true h];simp
theorem good_n {wh:Bool} {L:List (List UInt8)} {k:Nat} (hk:k<L.length) (hy:It.parse L[k]=none):Sh.good wh L k=false:=by
 rw [Sh.good_iff hk,hy];rfl
theorem good_l {L:List (List UInt8)} {k:Nat} (hk:k<L.length) (h:¬ k+1<L.length):Sh.good false L k=false:=by
 rw [Sh.good_iff hk,decide_eq_false h];simp
theorem good_next {wh:Bool} {L:List (List UInt8)} {k:Nat} (h0:∀ j<k,Sh.good wh L j=true) (h:Sh.good wh L k=true):∀ j<k+1,Sh.good wh L j=true:=fun j hj=>by
 rcases Nat.lt_or_ge j k with h1 | h1
 ·exact h0 j h1
 ·obtain rfl:j=k:=by omega
  exact h
theorem rsparse_any (s:ByteArray) (w:World) (hs:s.size≤1000000) :
 Calls Tryz.prog 19 #[.string s] w (SheetGives (Sh.parse s.data.toList) w):=by
 obtain ⟨i0,hi,hz0,hz1,hz2⟩:=info_parts infoItem
 have hb0:=Lib.hid ((Below.refl w.heap.size w).alloc (Nat.le_refl _) (.cells #[.int .i64 0,.int .i64 0] 49))
 have W:=rsplit_any s (w.alloc (.cells #[.int .i64 0,.int .i64 0] 49)) hs
 have R0:=Lib.hid (show (w.alloc (.cells #[.int .i64 0,.int .i64 0] 49)).heap[w.heap.size]? = some (.cells #[.int .i64 0,.int .i64 0] 49 (0,0)) from heap_alloc_new _ _)
 have hsz:s.data.toList.length=s.size:=by simp
 obtain ⟨hle,hln⟩:=Sh.split_le s.data.toList
 have PS:=Lib.hid (fun k=>@Sh.parse_some s.data.toList k)
 have PN:=Lib.hid (@Sh.parse_none s.data.toList)
 obtain ⟨L,hL⟩:∃ L,Ln.split s.data.toList=L:=⟨_,rfl⟩
 obtain ⟨wh,hwh⟩:∃ wh,Ln.whole s.data.toList=wh:=⟨_,rfl⟩
 rw [hL,hwh] at W PS PN
 rw [hL] at hle hln
 have hlen:L.length≤1000001:=by omega
 have LE:=Lib.hid (fun x hx=>Nat.le_trans (hle x hx) (show s.data.toList.length≤1000000 by omega))
 have C:=Lib.hid W
 clear W hsz hle hln hL hwh
 go_enter Tryz.func19,Tryz.ntmps19
 go_wp2_with fail
 refine C.out.mono ?_;rintro e w1 ⟨a,c,hc,rfl,hs1,hb1⟩
 have r1:=(hb1.block _ (show w.heap.size<(w.alloc (.cells #[.int .i64 0,.int .i64 0] 49)).heap.size by simp)).trans R0.out
 have R1:=Lib.hid r1
 have hz1':=(row2f r1).2.2
 have hbW:=Lib.hid (hb0.out.trans (hb1.mono (by simp)))
 clear r1 hb1
 go_wp2
 go_loopw [6,7] (fun v i wr=>∃ k:Nat,k≤L.length∧i=.int .i64 k∧(∀ j<k,Sh.good wh L j=true)∧wr.ownsRow w1.heap.size 93 7 v k (cellsL (Sh.items (L.take k)))∧Below w1.heap.size w1 wr) (fun _ i _=>L.length - (intOf i).toNat)
 case atStart=>exact ⟨0,Nat.zero_le _,rfl,fun j hj=>absurd hj (by omega),World.ownsRow_nil _ _ _ _,Below.refl _ _⟩
 case round =>
  obtain ⟨k,hk,rfl,hg,hown,hbel⟩:=hrel
  have HG:=Lib.hid hg
  clear hg
  have hz:=hbel.size
  have RR:=Lib.hid (stay_row R1.out hbel)
  by_cases hlt:k<L.length
  ·obtain ⟨a',rfl,hb,hcell⟩:=(hs1.below rfl hbel).cell hlt
   rw [str] at hcell
   have PC:=Lib.hid (riparse_any (txt L[k]) wr (by rw[txt_size];exact LE.out _ (List.getElem_mem hlt)))
   rw [txt_toList] at PC
   have OW:=Lib.hid hown
   clear hown
   go_wp2_with fail
   refine PC.out.mono ?_;rintro e w2 ⟨y,rfl,hyy,hb2⟩
   have r2:=stay_row RR.out hb2
   obtain ⟨⟨a0,a1⟩,⟨f0,f1⟩,hgz⟩:=row2f r2
   have n0:=World.new_ne _ _ a0
   have hbX:=Lib.hid (hbW.out.trans ((hbel.mono hbW.out.size).trans (hb2.mono (Nat.le_trans hbW.out.size hz))))
   clear r2
   cases hpk:It.parse L[k] with
   | none =>
     have P:=Lib.hid (PS.out _ (Sh.bad_at hlt HG.out (good_n hlt hpk)))
     clear hpk hyy
     rw [Option.isSome_none]
     go_wp2_with fail
     refine bodyPost_ret ?_ rfl (SheetGives.bad k P.out rfl ?_)
     ·simp [results,Tryz.results19,go_sem, *]
     ·refine Below.alloc ?_ (by simpa using hbX.out.size) _;(repeat (with_reducible refine Below.setCell ?_ (by first | exact Nat.le_refl _ | exact Nat.le_succ _) _));exact hbX.out
   | some z =>
     obtain rfl:y=z:=by rw[hpk] at hyy;exact hyy
     clear hyy
     rw [Option.isSome_some]
     by_cases hend:wh=true∨k+1<L.length
     ·have HN:=Lib.hid (good_next HG.out (good_t hlt hpk hend))
      have IT:=Lib.hid (Sh.items_snoc hlt hpk)
      have OW2:=Lib.hid (((ownsRow_below OW.out hb2).alloc (.cells (cells7 y).toArray 93)).alloc (.cells (cells7 y).toArray 93))
      have NW:=Lib.hid (show ∀ j u,(cells7 y)[j]? = some u→((w2.alloc (.cells (cells7 y).toArray 93)).alloc (.cells (cells7 y).toArray 93)).cell? ((⟨w2.heap.size+1,0,none⟩:Addr).add j)=some u from
       fun j u hu=>World.news_of_block (B:=w2.heap.size+1) (cs:=(cells7 y).toArray) (t:=93) (fr:=(0,0)) (by have:=heap_alloc_new (w2.alloc (.cells (cells7 y).toArray 93)) (.cells (cells7 y).toArray 93);simpa using this) j u (by simpa using hu))
      clear hpk
      have hbz:=hb2.size
      have hbE:=Lib.hid ((hbel.trans (hb2.mono hz)).alloc (by omega) (.cells (cells7 y).toArray 93) |>.alloc (by simp;omega) (.cells (cells7 y).toArray 93))
      by_cases hl:k+1<L.length
      ·have h1:((k:Int) == (L.length:Int) - 1)=false:=by rw[beq_eq_false_iff_ne];omega
       clear hend hl
       go_wp2_with (at_builtin;refine wpList_append_own _ rfl (.tmp 45) (.tmp 47) 47 rfl w1.heap.size 93 i0 _ 7 80 Tryz.underlying47 hi hz0 hz1 hz2 rfl (by decide) _ _ _ rfl OW2.out ⟨w2.heap.size+1,0,none⟩ 1 1 (cells7 y) rfl rfl NW.out (cells7_one y) (by unfold maxLen;omega) (by omega) (by simp;omega) ?_;intro v1 w3 hown1 hg1 _)
       have hB3:=Lib.hid (hbE.out.grown hg1 (by simp;omega) (fun g hg=>(OW2.out.lt g hg).1))
       have O3:=Lib.hid hown1
       clear hown1 hg1
       go_wp2
       go_roundw
       case rel=>exact ⟨k+1,by omega,by go_num,HN.out,by rw[IT.out,cellsL_append,cellsL_one];exact O3.out,hB3.out⟩
       case measure=>simp [intOf];omega
      ·have h1:((k:Int) == (L.length:Int) - 1)=true:=by rw[beq_iff_eq];omega
       obtain rfl:wh=true:=by rcases hend with h | h;exact h;exact absurd h hl
       clear hend hl
       go_wp2_with (at_builtin;refine wpList_append_own _ rfl (.tmp 45) (.tmp 47) 47 rfl w1.heap.size 93 i0 _ 7 80 Tryz.underlying47 hi hz0 hz1 hz2 rfl (by decide) _ _ _ rfl OW2.out ⟨w2.heap.size+1,0,none⟩ 1 1 (cells7 y) rfl rfl NW.out (cells7_one y) (by unfold maxLen;omega) (by omega) (by simp;omega) ?_;intro v1 w3 hown1 hg1 _)
       have hB3:=Lib.hid (hbE.out.grown hg1 (by simp;omega) (fun g hg=>(OW2.out.lt g hg).1))
       have O3:=Lib.hid hown1
       clear hown1 hg1
       go_wp2
       go_roundw
       case rel=>exact ⟨k+1,by omega,by go_num,HN.out,by rw[IT.out,cellsL_append,cellsL_one];exact O3.out,hB3.out⟩
       case measure=>simp [intOf];omega
     ·obtain ⟨hw,hl⟩:wh=false∧¬ k+1<L.length:=⟨by cases wh <;> simp_all,fun h=>hend (.inr h)⟩
      subst hw
      have P:=Lib.hid (PS.out _ (Sh.bad_at hlt HG.out (good_l hlt hl)))
      have h1:((k:Int) == (L.length:Int) - 1)=true:=by rw[beq_iff_eq];omega
      clear hpk hend hl
      go_wp2_with fail
      refine bodyPost_ret ?_ rfl (SheetGives.bad k P.out rfl ?_)
      ·simp [results,Tryz.results19,go_sem, *]
      ·refine Below.alloc ?_ (by simpa using hbX.out.size) _;(repeat (with_reducible refine Below.setCell ?_ (by first | exact Nat.le_refl _ | exact Nat.le_succ _) _));exact hbX.out
  ·have H0:=Lib.hid (PN.out (Sh.bad_no fun j hj=>HG.out j (by omega)))
   have RR2:=RR.out
   obtain ⟨⟨a0,a1⟩,⟨f0,f1⟩,hgz⟩:=row2f RR2
   obtain rfl:k=L.length:=by omega
   have e0:L.take L.length=L:=List.take_of_length_le (Nat.le_refl _)
   rw [e0] at hown
   obtain ⟨hn,A,c',rfl,hcap,hits⟩:=Its.of_own (ownsRow_setCell_below (ownsRow_setCell_below hown (a:=⟨w.heap.size,0,none⟩) hz1' (.int .i64 0)) (a:=⟨w.heap.size,1,none⟩) hz1' (.int .i64 0))
   have HN:=Lib.hid hn
   clear e0 hown hn RR2
   go_wp2_with fail
   refine bodyPost_ret ?_ rfl (SheetGives.good (A:=A) H0.out HN.out hcap rfl hits ?_)
   ·simp [results,Tryz.results19,go_sem, *]
   ·(repeat (with_reducible refine Below.setCell ?_ (by first | exact Nat.le_refl _ | exact Nat.le_succ _) _));exact hbW.out.trans (hbel.mono hbW.out.size)
structure Lies (α:Type) where
 m:Nat
 pos:0<m
 enc:α→List Value
 len:∀ y,(enc y).length=m
 one:∀ y,∀ u∈enc y,u.oneCell'=true
section
variable {α : Type} (E : Lies α)
def Lies.all (L:List α):List Value:=L.flatMap E.enc
theorem Lies.all_append (a b:List α):E.all (a++b)=E.all a++E.all b:=by simp [Lies.all]
theorem Lies.all_one (y:α):E.all [y]=E.enc y:=by simp [Lies.all]
theorem Lies.all_cons (y:α) (L:List α):E.all (y :: L)=E.enc y++E.all L:=by simp [Lies.all]
theorem Lies.all_len:∀ L:List α,(E.all L).length=L.length * E.m
 | []=>by simp [Lies.all]
 | y :: L=>by rw[E.all_cons,List.length_append,Lies.all_len L,E.len,List.length_cons,Nat.succ_mul];omega
theorem Lies.all_at:∀ (L:List α) (k j:Nat) (y:α),L[k]? = some y→j<E.m→(E.all L)[k * E.m+j]? = (E.enc y)[j]?
 | [],_,_,_,h,_=>by simp at h
 | x :: L,0,j,y,h,hj=>by
   obtain rfl:x=y:=by simpa using h
   rw [E.all_cons,List.getElem?_append_left (by rw[E.len];omega)]
   congr 1;omega
 | x :: L,k+1,j,y,h,hj=>by
   rw [E.all_cons,List.getElem?_append_right (by rw[E.len,Nat.succ_mul];omega),E.len]
   rw [show (k+1) * E.m+j - E.m=k * E.m+j by rw[Nat.succ_mul];omega]
   exact Lies.all_at L k j y (by simpa using h) hj
theorem Lies.all_single (L:List α):∀ u∈E.all L,u.oneCell'=true:=fun u hu=>by
 obtain ⟨y,_,h⟩:=List.mem_flatMap.1 hu
 exact E.one y u h
def Lies.On (w:World) (b o:Nat) (y:α):Prop:=∀ j v,(E.enc y)[j]? = some v→w.cell? ⟨b,o+j,none⟩ = some v
def Lies.Row (w:World) (A:Option Addr) (L:List α):Prop:=L=[]∨∃ b o,A=some ⟨b,o,none⟩∧b<w.heap.size∧∀ k y,L[k]? = some y→E.On w b (o+k * E.m) y
theorem Lies.Row.nil (w:World) (A:Option Addr):E.Row w A []:=.inl rfl
variable {E}
theorem Lies.On.below {w w':World} {b o:Nat} {y:α} {B:Nat} (h:E.On w b o y) (hlt:b<B) (hb:Below B w w'):E.On w' b o y:=fun j v hv=>by
 rw [hb.cell (show (⟨b,o+j,none⟩:Addr).block<B from hlt)];exact h j v hv
theorem Lies.Row.below {w w':World} {A:Option Addr} {L:List α} {B:Nat} (h:E.Row w A L) (hB:B=w.heap.size) (hb:Below B w w'):E.Row w' A L:=by
 subst hB
 rcases h with h | ⟨b,o,hA,hlt,h⟩
 ·exact .inl h
 ·have:=hb.size
  exact .inr ⟨b,o,hA,by omega,fun k y hk=>(h k y hk).below hlt hb⟩
theorem Lies.Row.at {w:World} {A:Option Addr} {L:List α} (h:E.Row w A L) {k:Nat} (hk:k<L.length):∃ b o,A=some ⟨b,o,none⟩∧b<w.heap.size∧E.On w b (o+k * E.m) L[k]:=by
 rcases h with rfl | ⟨b,o,hA,hlt,h⟩
 ·simp at hk
 ·exact ⟨b,o,hA,hlt,h k _ (List.getElem?_eq_getElem hk)⟩
theorem Lies.Row.of_own {w:World} {base:Nat} {e:TypeId} {v:Value} {n:Nat} {L:List α} (h:w.ownsRow base e E.m v n (E.all L)) :
 n=L.length∧∃ A c,v=.slice A n c∧n≤c∧E.Row w A L:=by
 have hl:L.length=n:=by
  have:=h.1
  rw [E.all_len] at this
  exact Nat.eq_of_mul_eq_mul_right E.pos this
 refine ⟨hl.symm,?_⟩
 rcases h.2 with ⟨rfl,rfl⟩ | ⟨g,cap,cur,rfl,_,hh,hc,_⟩
 ·exact ⟨none,0,rfl,Nat.le_refl _,.inl (List.eq_nil_of_length_eq_zero hl)⟩
 ·refine ⟨some ⟨g,0,none⟩,cap,rfl,hc,.inr ⟨g,0,rfl,(Array.getElem?_eq_some_iff.1 hh).1,fun k y hk j u hu=>?_⟩⟩
  have hj:j<E.m:=by
   have:=(List.getElem?_eq_some_iff.1 hu).1
   rwa [E.len] at this
  have:=h.cells (g:=g) rfl (k * E.m+j) u (by rw[E.all_at L k j y hk hj];exact hu)
  rw [Go.WideShapes.add_plain] at this
  rw [show 0+k * E.m+j=0+(k * E.m+j) by omega]
  exact this
theorem Lies.own_on {w:World} {base:Nat} {e:TypeId} {g cap n:Nat} {L:List α} (h:w.ownsRow base e E.m (.slice (some ⟨g,0,none⟩) n cap) n (E.all L)) {k:Nat} {y:α} (hk:L[k]? = some y):E.On w g (k * E.m) y:=by
 intro j u hu
 have hj:j<E.m:=by
  have:=(List.getElem?_eq_some_iff.1 hu).1
  rwa [E.len] at this
 have:=h.cells (g:=g) rfl (k * E.m+j) u (by rw[E.all_at L k j y hk hj];exact hu)
 rw [Go.WideShapes.add_plain] at this
 rwa [Nat.zero_add] at this
theorem Lies.news {w:World} {b o:Nat} {L:List α} (h:∀ k y,L[k]? = some y→E.On w b (o+k * E.m) y):∀ j u,(E.all L)[j]? = some u→w.cell? ((⟨b,o,none⟩:Addr).add j)=some u:=fun j u hu=>by
 have hl:=(List.getElem?_eq_some_iff.1 hu).1
 rw [E.all_len] at hl
 have hp:=E.pos
 have hk:j / E.m<L.length:=(Nat.div_lt_iff_lt_mul hp).2 hl
 have e:=E.all_at L (j / E.m) (j % E.m) _ (List.getElem?_eq_getElem hk) (Nat.mod_lt _ hp)
 have hj:j / E.m * E.m+j % E.m=j:=by rw[Nat.mul_comm];exact Nat.div_add_mod j E.m
 rw [hj,hu] at e
 rw [Go.WideShapes.add_plain]
 have:=h (j / E.m) _ (List.getElem?_eq_getElem hk) (j % E.m) u e.symm
 rwa [show o+j / E.m * E.m+j % E.m=o+j by omega] at this
theorem Lies.Row.fresh (w:World) (L:List α) (t:TypeId):E.Row (w.alloc (.cells (E.all L).toArray t)) (some ⟨w.heap.size,0,none⟩) L:=by
 refine .inr ⟨w.heap.size,0,rfl,by simp,fun k y hk j v hv=>?_⟩
 have hj:j<E.m:=by
  have:=(List.getElem?_eq_some_iff.1 hv).1
  rwa [E.len] at this
 rw [cell_of_row _ _ _ _ _ _ (heap_alloc_new w _),List.getElem?_toArray,Nat.zero_add,E.all_at L k j y hk hj]
 exact hv
theorem Lies.set_cell (L:List α) (k j:Nat) (x y:α) (hx:L[k]? = some x) (hj:j<E.m) (u:Value) (hu:(E.enc x).set j u=E.enc y):(E.all L).set (k * E.m+j) u=E.all (L.set k y):=by
 apply List.ext_getElem?
 intro i
 have hkl:=(List.getElem?_eq_some_iff.1 hx).1
 have hlen:(E.all (L.set k y)).length=(E.all L).length:=by rw[E.all_len,E.all_len,List.length_set]
 by_cases hi:i<L.length * E.m
 ·have hp:=E.pos
  have hk':i / E.m<L.length:=(Nat.div_lt_iff_lt_mul hp).2 hi
  have hi':i / E.m * E.m+i % E.m=i:=by rw[Nat.mul_comm];exact Nat.div_add_mod i E.m
  have hmod:=Nat.mod_lt i hp
  by_cases hik:i / E.m=k
  ·have hik':k * E.m+i % E.m=i:=by rw[← hik];exact hi'
   have r:(E.all (L.set k y))[i]? = (E.enc y)[i % E.m]?:=by
    have:=E.all_at (L.set k y) k (i % E.m) y (by rw[List.getElem?_set_self hkl]) hmod
    rwa [hik'] at this
   rw [r,← hu]
   by_cases hij:i % E.m=j
   ·rw [hij,List.getElem?_set_self (by rw[E.len];exact hj)]
    rw [show k * E.m+j=i by rw[← hij];exact hik']
    rw [List.getElem?_set_self (by rw[E.all_len];exact hi)]
   ·rw [List.getElem?_set_ne (by omega),List.getElem?_set_ne (by omega)]
    have:=E.all_at L k (i % E.m) x hx hmod
    rwa [hik'] at this
  ·rw [List.getElem?_set_ne (fun e=>hik (by rw[← e,Nat.mul_comm,Nat.mul_add_div hp,Nat.div_eq_of_lt hj,Nat.add_zero]))]
   have a:=E.all_at L (i / E.m) (i % E.m) _ (List.getElem?_eq_getElem hk') hmod
   have b:=E.all_at (L.set k y) (i / E.m) (i % E.m) L[i / E.m] (by rw[List.getElem?_set_ne (Ne.symm hik)];exact List.getElem?_eq_getElem hk') hmod
   rw [hi'] at a b
   rw [a,b]
 ·rw[List.getElem?_eq_none (by rw[List.length_set,E.all_len];omega),List.getElem?_eq_none (by rw[hlen,E.all_len];omega)]
end
theorem wpList_append_row {α:Type} (E:Lies α) {P:Program} (w:World) {ops:Array Oper} {rest:List Oper} {o:Oper} {a:Act} {Q:Exit→Act→World→Prop} (hw:Region.wanted o (yielded ops a.tmps)=true) (s x:Operand) (t:TypeId)
 (ho:o.op=.call { callee:=.builtin .append,args:=#[s,x],argTypes:=#[t,t] })
 (base:Nat) (e:TypeId) (i:TypeInfo) (z:Value) (bytes:Nat) (ht:P.underlying t=some (.slice e)) (hi:P.info? e=some i) (hz:i.zero=some z)
 (hsize:i.size=E.m) (hby:i.bytes=bytes) (hzs:z.cells.size=E.m)
 (v:Value) (n:Nat) (xs:List Value) (hs:a.eval s=v) (hown:w.ownsRow base e E.m v n xs)
 (A:Option Addr) (c m:Nat) (L:List α) (hm:L.length=m) (h0:0<m) (hx:a.eval x=.slice A m c) (hI:E.Row w A L) (hn:n+m≤1000000000) (hbytes:(n+m) * bytes≤140737488355328) (hbase:base≤w.heap.size)
 (h:∀ g' cap' w',w'.ownsRow base e E.m (.slice (some ⟨g',0,none⟩) (n+m) cap') (n+m) (xs++E.all L)→w.grownBy w' v.ownBlock→(v.ownBlock=some g'∨g'=w.heap.size)→wpList P ops Q rest (a.put o.dst (.slice (some ⟨g',0,none⟩) (n+m) cap')) w'):wpList P ops Q (o :: rest) a w:=by
 subst hm
 rcases hI with hI | ⟨b,off,rfl,_,hI⟩
 ·subst hI;simp at h0
 exact BigFrame.wpList_want hw fun _ hK=>wp_append_lies w s x t ho base e i z E.m bytes ht hi hz hsize hby hzs E.pos _ n xs hs hown ⟨b,off,none⟩ L.length c (E.all L) hx (E.all_len L) (Lies.news hI) (E.all_single L) h0 (by unfold maxLen;omega) hbytes hbase _ rfl
  fun g' cap' w' h2 h3 h4 _=>hK _ _ (h g' cap' w' h2 h3 h4)
open Go.RowKit
def secCells (s:Pl.Sec):List Value :=
 [.string (txt s.name),.bool s.pt,.int .i64 s.len,.int .i64 s.e0.goes,.int .i64 s.e0.at_,.int .i64 s.e0.sig,.int .i64 s.e1.goes,.int .i64 s.e1.at_,.int .i64 s.e1.sig,.int .i64 s.e2.goes,.int .i64 s.e2.at_,.int .i64 s.e2.sig]
def sigCells (g:Pl.Sig):List Value:=[.string (txt g.name),.int .i64 g.sec,.int .i64 g.en]
def LSec:Lies Pl.Sec:=⟨12,by decide,secCells,fun _=>rfl,fun y u hu=>by
 simp [secCells] at hu
 rcases hu with rfl | rfl | rfl | rfl | rfl | rfl | rfl | rfl | rfl | rfl | rfl | rfl <;> rfl⟩
def LSig:Lies Pl.Sig:=⟨3,by decide,sigCells,fun _=>rfl,fun y u hu=>by
 simp [sigCells] at hu
 rcases hu with rfl | rfl | rfl <;> rfl⟩
def LItm:Lies It.Itm:=⟨7,by decide,cells7,cells7_length,cells7_one⟩
theorem sec_on {w:World} {b o:Nat} {s:Pl.Sec} (h:LSec.On w b o s) :
 w.cell? ⟨b,o,none⟩ = some (.string (txt s.name))∧w.cell? ⟨b,o+1,none⟩ = some (.bool s.pt)∧w.cell? ⟨b,o+2,none⟩ = some (.int .i64 s.len)∧w.cell? ⟨b,o+3,none⟩ = some (.int .i64 s.e0.goes)∧w.cell? ⟨b,o+4,none⟩ = some (.int .i64 s.e0.at_) ∧
  w.cell? ⟨b,o+5,none⟩ = some (.int .i64 s.e0.sig)∧w.cell? ⟨b,o+6,none⟩ = some (.int .i64 s.e1.goes)∧w.cell? ⟨b,o+7,none⟩ = some (.int .i64 s.e1.at_)∧w.cell? ⟨b,o+8,none⟩ = some (.int .i64 s.e1.sig) ∧
  w.cell? ⟨b,o+9,none⟩ = some (.int .i64 s.e2.goes)∧w.cell? ⟨b,o+10,none⟩ = some (.int .i64 s.e2.at_)∧w.cell? ⟨b,o+11,none⟩ = some (.int .i64 s.e2.sig) :=
 ⟨h 0 _ rfl,h 1 _ rfl,h 2 _ rfl,h 3 _ rfl,h 4 _ rfl,h 5 _ rfl,h 6 _ rfl,h 7 _ rfl,h 8 _ rfl,h 9 _ rfl,h 10 _ rfl,h 11 _ rfl⟩
theorem sig_on {w:World} {b o:Nat} {g:Pl.Sig} (h:LSig.On w b o g):w.cell? ⟨b,o,none⟩ = some (.string (txt g.name))∧w.cell? ⟨b,o+1,none⟩ = some (.int .i64 g.sec)∧w.cell? ⟨b,o+2,none⟩ = some (.int .i64 g.en) :=
 ⟨h 0 _ rfl,h 1 _ rfl,h 2 _ rfl⟩
def PlanGives (p:Pl.Plan × Int × Nat) (w:World) (e:Ending) (w':World):Prop :=
 ∃ A c A' c',p.1.secs.length≤c∧p.1.sigs.length≤c' ∧
   e=.returned (.tuple #[.agg #[.int .i64 p.1.ov,.int .i64 p.1.ap,.int .i64 p.1.se,.int .i64 p.1.ho,.slice A p.1.secs.length c,.slice A' p.1.sigs.length c'],.agg #[.int .i64 p.2.1,.int .i64 p.2.2]]) ∧
   LSec.Row w' A p.1.secs∧LSig.Row w' A' p.1.sigs∧Below w.heap.size w w'
theorem PlanGives.bad {p:Pl.Plan × Int × Nat} {w w':World} {e:Ending} (x:Int) (n:Nat) (hp:p=(Pl.Plan.zero,x,n)) (he:e=.returned (.tuple #[.agg #[.int .i64 0,.int .i64 0,.int .i64 0,.int .i64 0,.slice none 0 0,.slice none 0 0],.agg #[.int .i64 x,.int .i64 (n:Int)]])) (hb:Below w.heap.size w w'):PlanGives p w e w':=by
 subst hp
 exact ⟨none,0,none,0,Nat.le_refl _,Nat.le_refl _,he,.inl rfl,.inl rfl,hb⟩
theorem str_lt (a b:List UInt8):Op.bytesLess (txt a).toList (txt b).toList=decide (a<b):=by rw[toList_txt,toList_txt];exact bytesLess_eq a b
def letterI (pt:Bool) (e:Int):UInt8:=if 0≤e∧e≤2 then Pl.letter pt e.toNat else 0
theorem rpLetter_any (pt:Bool) (e:Int) (w:World) :
 Calls Tryz.prog 117 #[.bool pt,.int .i64 e] w fun x w'=>x=.returned (.int .u8 (letterI pt e).toNat)∧Below w.heap.size w w':=by
 have hb0:=Lib.hid ((Below.refl w.heap.size w).alloc (Nat.le_refl _) (.cells #[.int .u8 97,.int .u8 98,.int .u8 0] 196))
 have hb1:=Lib.hid ((Below.refl w.heap.size w).alloc (Nat.le_refl _) (.cells #[.int .u8 116,.int .u8 110,.int .u8 114] 196))
 by_cases h0:e<0
 ·have d0:decide (e<0)=true:=dec_t h0
  have P:=Lib.hid (show letterI pt e=0 by unfold letterI;rw[if_neg (by omega)])
  clear h0
  cases pt
  all_goals
   go_enter Tryz.func117,Tryz.ntmps117
   go_wp2
   go_ret
   first | exact ⟨by rw[P.out];rfl,hb0.out⟩ | exact ⟨by rw[P.out];rfl,hb1.out⟩
 ·have d0:decide (e<0)=false:=dec_f h0
  by_cases h2:2<e
  ·have d2:decide (2<e)=true:=dec_t h2
   have P:=Lib.hid (show letterI pt e=0 by unfold letterI;rw[if_neg (by omega)])
   clear h0 h2
   cases pt
   all_goals
    go_enter Tryz.func117,Tryz.ntmps117
    go_wp2
    go_ret
    first | exact ⟨by rw[P.out];rfl,hb0.out⟩ | exact ⟨by rw[P.out];rfl,hb1.out⟩
  ·have he:e=0∨e=1∨e=2:=by omega
   clear d0 h0 h2
   rcases he with rfl | rfl | rfl
   all_goals
    cases pt
    all_goals
     go_enter Tryz.func117,Tryz.ntmps117
     go_wp2
     go_ret
     first | exact ⟨rfl,hb0.out⟩ | exact ⟨rfl,hb1.out⟩
theorem find_next {L:List Pl.Sec} {nm:List UInt8} {k:Nat} (hk:k<L.length) (h0:∀ j<k,∀ t,L[j]? = some t→t.name≠nm) (h:L[k].name≠nm):∀ j<k+1,∀ t,L[j]? = some t→t.name≠nm:=fun j hj t ht=>by
 rcases Nat.lt_or_ge j k with h1 | h1
 ·exact h0 j h1 t ht
 ·obtain rfl:j=k:=by omega
  rw [List.getElem?_eq_getElem hk] at ht
  cases ht
  exact h
theorem txt_eqB {x y:List UInt8} (h:x=y):((txt x).toList == (txt y).toList)=true:=by rw[h];simp
theorem txt_neB {x y:List UInt8} (h:x≠y):((txt x).toList == (txt y).toList)=false:=by rw[beq_eq_false_iff_ne,toList_txt,toList_txt];exact h
theorem rpFind_any (A:Option Addr) (c:Nat) (L:List Pl.Sec) (nm:List UInt8) (w:World) (h:LSec.Row w A L) (hl:L.length≤1000000) :
 Calls Tryz.prog 79 #[.slice A L.length c,.string (txt nm)] w fun e w'=>e=.returned (.int .i64 (Pl.find L nm))∧w=w':=by
 go_enter Tryz.func79,Tryz.ntmps79
 go_wp2
 go_loop [5] (fun i=>∃ k:Nat,k≤L.length∧i=.int .i64 k∧∀ j<k,∀ t,L[j]? = some t→t.name≠nm) (fun i=>L.length - (intOf i).toNat)
 case atStart=>exact ⟨0,Nat.zero_le _,rfl,fun j hj=>absurd hj (by omega)⟩
 case round =>
  obtain ⟨k,hk,rfl,h0⟩:=hrel
  have H0:=Lib.hid h0
  clear h0
  by_cases hlt:k<L.length
  ·obtain ⟨b,o,rfl,hb,on⟩:=h.at hlt
   have a0:=(sec_on on).1
   clear on
   rw [show k * LSec.m=k * 12 from rfl] at a0
   by_cases he:L[k].name=nm
   ·have h1:=txt_eqB he
    have P:=Lib.hid (Pl.find_at (List.getElem?_eq_getElem hlt) he H0.out)
    clear he
    go_wp2
    go_ret
    exact ⟨by rw[P.out];rfl,rfl⟩
   ·have h1:=txt_neB he
    have N:=Lib.hid (find_next hlt H0.out he)
    clear he
    go_wp2
    go_round
    case rel=>exact ⟨k+1,by omega,by go_num,N.out⟩
    case measure=>simp [intOf];omega
  ·have P:=Lib.hid (Pl.find_none (l:=L) (nm:=nm) fun s hs=>by
    obtain ⟨j,hj,rfl⟩:=List.getElem_of_mem hs
    exact H0.out j (by omega) _ (List.getElem?_eq_getElem hj))
   go_wp2
   go_ret
   exact ⟨by rw[P.out];rfl,rfl⟩
def ptAt (L:List Pl.Sec) (i:Int):Bool:=((L[i.toNat]?).map Pl.Sec.pt).getD false
def endI (L:List Pl.Sec) (t:It.Tp):Int × Int × Int :=
 if Pl.find L t.n<0 then (0,0,4) else match Pl.endAt (ptAt L (Pl.find L t.n)) t.c with
  | some e=>(Pl.find L t.n,(e:Int),0)
  | none=>(0,0,5)
theorem endI_no {L:List Pl.Sec} {t:It.Tp} (h:Pl.find L t.n<0):endI L t=(0,0,4):=by unfold endI;rw[if_pos h]
theorem endI_at {L:List Pl.Sec} {t:It.Tp} {i:Nat} {s:Pl.Sec} (h:Pl.find L t.n=i) (hs:L[i]? = some s):endI L t=match Pl.endAt s.pt t.c with | some e=>((i:Int),(e:Int),0) | none=>(0,0,5):=by
 unfold endI
 rw [if_neg (by omega),h,ptAt,Int.toNat_natCast,hs];rfl
theorem endAt_hit {pt:Bool} {c:UInt8} (hc:c≠0) {k:Nat} (hk:k<3) (h0:∀ j<k,Pl.letter pt j≠c) (h:Pl.letter pt k=c):Pl.endAt pt c=some k:=by
 unfold Pl.endAt
 have hk':k=0∨k=1∨k=2:=by omega
 rcases hk' with rfl | rfl | rfl
 ·rw[if_pos h]
 ·rw[if_neg (h0 0 (by omega)),if_pos h]
 ·rw [if_neg (h0 0 (by omega)),if_neg (h0 1 (by omega))]
  cases pt
  ·exact absurd h.symm hc
  ·rw[if_pos ⟨rfl,h⟩]
theorem endAt_miss {pt:Bool} {c:UInt8} (h0:∀ j<3,Pl.letter pt j≠c):Pl.endAt pt c=none:=by
 unfold Pl.endAt
 rw [if_neg (h0 0 (by omega)),if_neg (h0 1 (by omega)),if_neg fun h=>h0 2 (by omega) h.2]
theorem letterI_nat (pt:Bool) (k:Nat) (hk:k<3):letterI pt k=Pl.letter pt k:=by
 unfold letterI
 rw [if_pos (by omega)];rfl
theorem u8_eqB {a b:UInt8} (h:a=b):((a.toNat:Int) == (b.toNat:Int))=true:=by rw[h];simp
theorem u8_neB {a b:UInt8} (h:a≠b):((a.toNat:Int) == (b.toNat:Int))=false:=by
 rw [beq_eq_false_iff_ne]
 exact fun e=>h (UInt8.toNat_inj.mp (by omega))
theorem row2c {w:World} {g:Nat} {a b:Value} {t:TypeId} (h:w.heap[g]? = some (.cells #[a,b] t (0,0))):(w.cell? ⟨g,0,none⟩ = some a∧w.cell? ⟨g,1,none⟩ = some b)∧g<w.heap.size :=
 ⟨⟨cell_of_row w g 0 _ t _ h,cell_of_row w g 1 _ t _ h⟩,(Array.getElem?_eq_some_iff.1 h).1⟩
def EndGives (L:List Pl.Sec) (t:It.Tp) (w:World) (e:Ending) (w':World):Prop:=e=.returned (.tuple #[.int .i64 (endI L t).1,.int .i64 (endI L t).2.1,.int .i64 (endI L t).2.2])∧Below w.heap.size w w'
theorem EndGives.mk {L:List Pl.Sec} {t:It.Tp} {w w':World} {e:Ending} (a b c:Int) (h:endI L t=(a,b,c)) (he:e=.returned (.tuple #[.int .i64 a,.int .i64 b,.int .i64 c])) (hb:Below w.heap.size w w'):EndGives L t w e w':=by
 refine ⟨?_,hb⟩
 rw [h];exact he
theorem rpEnd_any (A:Option Addr) (c:Nat) (L:List Pl.Sec) (t:It.Tp) (w:World) (h:LSec.Row w A L) (hl:L.length≤1000000) (hc:t.c≠0) :
 Calls Tryz.prog 80 #[.slice A L.length c,.agg #[.string (txt t.n),.int .u8 t.c.toNat]] w (EndGives L t w):=by
 have hb0:=Lib.hid ((Below.refl w.heap.size w).alloc (Nat.le_refl _) (.cells #[.string (txt t.n),.int .u8 t.c.toNat] 90))
 have F:=Lib.hid (rpFind_any A c L t.n (w.alloc (.cells #[.string (txt t.n),.int .u8 t.c.toNat] 90)) (h.below rfl hb0.out) hl)
 have R0:=Lib.hid (show (w.alloc (.cells #[.string (txt t.n),.int .u8 t.c.toNat] 90)).heap[w.heap.size]? = some (.cells #[.string (txt t.n),.int .u8 t.c.toNat] 90 (0,0)) from heap_alloc_new _ _)
 rcases Pl.find_cases L t.n with ⟨hf,_⟩ | ⟨i,s,hf,hs,_⟩
 ·have P:=Lib.hid (endI_no (L:=L) (t:=t) (by rw[hf];decide))
  rw [hf] at F
  clear hf h hl hc
  go_enter Tryz.func80,Tryz.ntmps80
  go_wp2_with fail
  refine F.out.mono ?_;rintro e w1 ⟨rfl,rfl⟩
  go_wp2_with fail
  refine bodyPost_ret ?_ rfl (EndGives.mk _ _ _ P.out rfl hb0.out)
  simp [results,Tryz.results80,go_sem]
 ·have E := Lib.hid (endI_at hf hs)
  rw [hf] at F
  obtain ⟨hi,hs'⟩:=List.getElem?_eq_some_iff.1 hs
  subst hs'
  clear hf hs
  go_enter Tryz.func80,Tryz.ntmps80
  go_wp2_with fail
  refine F.out.mono ?_;rintro e w1 ⟨rfl,rfl⟩
  go_wp2_with fail
  go_loopw [8] (fun v wr=>∃ k:Nat,k≤3∧v=.int .i64 k∧(∀ j<k,Pl.letter L[i].pt j≠t.c)∧Below w.heap.size w wr∧wr.heap[w.heap.size]? = some (.cells #[.string (txt t.n),.int .u8 t.c.toNat] 90 (0,0))) (fun v _=>3 - (intOf v).toNat)
  case atStart=>exact ⟨0,Nat.zero_le _,rfl,fun j hj=>absurd hj (by omega),hb0.out,R0.out⟩
  case round =>
   obtain ⟨k,hk,rfl,h0,hbel,hrow⟩:=hrel
   have H0:=Lib.hid h0
   have RR:=Lib.hid hrow
   clear h0
   by_cases hlt:k<3
   ·have d1:decide ((k:Int)<3)=true:=dec_t (by omega)
    obtain ⟨b,o,rfl,hb,on⟩:=(h.below rfl hbel).at hi
    have a1:=(sec_on on).2.1
    clear on
    rw [show i * LSec.m=i * 12 from rfl] at a1
    obtain ⟨⟨c0,c1⟩,hg⟩:=row2c hrow
    clear hrow
    have LT:=Lib.hid (fun W (h:Below wr.heap.size wr W)=>Made.of h (rpLetter_any L[i].pt k W))
    rw [letterI_nat _ _ hlt] at LT
    go_wp2_with fail
    by_cases he:Pl.letter L[i].pt k=t.c
    ·have h1:=u8_eqB he
     have P:=Lib.hid (E.out.trans (by rw[endAt_hit hc hlt H0.out he]))
     clear he
     go_region_held3 (fun w'=>w'.cell? ⟨b,o+i * 12+1,none⟩ = some (.bool L[i].pt)∧w'.cell? ⟨w.heap.size,1,none⟩ = some (.int .u8 t.c.toNat))
      (first | exact ⟨a1,c1⟩ | exact ⟨(hcell _ _ hb).trans a1,(hcell _ _ hg).trans c1⟩)
      (first
       | (go_at_call 117;(with_reducible refine (LT.out _ (Below.refl _ _).drew).mono ?_);rintro e w' ⟨rfl,hbl,hacc,hz⟩;have hcell:=(bcell hbl).1)
       | (go_at_call 117;(with_reducible refine (LT.out _ (below_drewN (Below.refl _ _) _)).mono ?_);rintro e w' ⟨rfl,hbl,hacc,hz⟩;have hcell:=(bcell hbl).1))
     all_goals go_wp2_with fail
     all_goals refine bodyPost_ret ?_ rfl (EndGives.mk _ _ _ P.out rfl (hbel.trans (hacc.mono hbel.size)))
     all_goals simp [results,Tryz.results80,go_sem]
    ·have h1:=u8_neB he
     have N:=Lib.hid (show ∀ j<k+1,Pl.letter L[i].pt j≠t.c from fun j hj=>by
      rcases Nat.lt_or_ge j k with h | h
      ·exact H0.out j h
      ·obtain rfl:j=k:=by omega
       exact he)
     clear he
     go_region_held3 (fun w'=>w'.cell? ⟨b,o+i * 12+1,none⟩ = some (.bool L[i].pt)∧w'.cell? ⟨w.heap.size,1,none⟩ = some (.int .u8 t.c.toNat))
      (first | exact ⟨a1,c1⟩ | exact ⟨(hcell _ _ hb).trans a1,(hcell _ _ hg).trans c1⟩)
      (first
       | (go_at_call 117;(with_reducible refine (LT.out _ (Below.refl _ _).drew).mono ?_);rintro e w' ⟨rfl,hbl,hacc,hz⟩;have hcell:=(bcell hbl).1)
       | (go_at_call 117;(with_reducible refine (LT.out _ (below_drewN (Below.refl _ _) _)).mono ?_);rintro e w' ⟨rfl,hbl,hacc,hz⟩;have hcell:=(bcell hbl).1))
     all_goals go_wp2_with fail
     all_goals go_roundw
     case rel=>exact ⟨k+1,by omega,by go_num,N.out,hbel.trans (hacc.mono hbel.size),(hacc.block _ hg).trans RR.out⟩
     case measure=>simp [intOf];omega
   ·have d1:decide ((k:Int)<3)=false:=dec_f (by omega)
    have P:=Lib.hid (E.out.trans (by rw[endAt_miss fun j hj=>H0.out j (by omega)]))
    go_wp2_with fail
    refine bodyPost_ret ?_ rfl (EndGives.mk _ _ _ P.out rfl hbel)
    simp [results,Tryz.results80,go_sem]
end Go.Proofs.YtncphjodaklleaaGreat
