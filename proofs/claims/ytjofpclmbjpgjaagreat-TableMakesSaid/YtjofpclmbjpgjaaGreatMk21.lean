/- Lemmas. -/
import Derived.Test.YtjofpclmbjpgjaaGreatMk14
set_option maxHeartbeats 8000000
set_option maxRecDepth 100000
namespace Go.Proofs.YtjofpclmbjpgjaaGreat
open Go.RowKit
abbrev AqX (p:Pl.Plan) (A:Option Addr) (c:Nat) (A':Option Addr) (c':Nat) (b:Int) (v:Value) (n:Nat):Obj:=.cells #[.int .i64 p.ov,.int .i64 p.ap,.int .i64 p.se,.int .i64 p.ho,.slice A p.secs.length c,.slice A' p.sigs.length c',.int .i64 b,v,.int .i64 n] 175
def LookAt (p:Pl.Plan) (A:Option Addr) (c:Nat) (A':Option Addr) (c':Nat) (b:Int) (v:Value) (g:Nat) (w0 wr:World) (n:Nat):Prop :=
 Below w0.heap.size w0 wr/\w0.heap.size<=g/\wr.heap[g]?=some (AqX p A c A' c' b v n)
abbrev sB (w w':World):Prop:=Tame 175 175 w w'
def cN (p:Pl.Plan) (A:Option Addr) (c:Nat) (A':Option Addr) (c':Nat) (b:Int) (v:Value) (g:Nat) (w0:World) (r:Option (List Wk.Stp) × Nat) (w:World) (e:Ending) (w':World):Prop :=
 ∃ B d,e=.returned (.tuple #[.slice B (r.1.getD []).length d,.bool r.1.isSome])/\OwnS w0.heap.size w' B d (r.1.getD [])/\LookAt p A c A' c' b v g w0 w' r.2/\sB w w'
section
variable {p : Pl.Plan} {A : Option Addr} {c : Nat} {A' : Option Addr} {c' : Nat} {b : Int} {v : Value} {g : Nat} {w0 wr : World} {n : Nat}
theorem LookAt.below {w2:World} (hh:LookAt p A c A' c' b v g w0 wr n) (hb:Below wr.heap.size wr w2):LookAt p A c A' c' b v g w0 w2 n:=by
 obtain⟨h1,h2,h3⟩:=hh
 exact⟨h1.trans (hb.mono h1.size),h2,(hb.block _ (ArL h3).1).trans h3⟩
theorem LookAt.came (hh:LookAt p A c A' c' b v g w0 wr n):LookAt p A c A' c' b v g w0 (wr.setCell ⟨g,8,none⟩ (.int .i64 ((n:Int)+1))) (n+1)/\sB wr (wr.setCell ⟨g,8,none⟩ (.int .i64 ((n:Int)+1))):=by
 obtain⟨h1,h2,h3⟩:=hh
 refine⟨⟨h1.setCell h2 _,h2,?_⟩,pE h3⟩
 rw[AtA _ _ _ _ _ _ h3]
 rfl
theorem kF {way:List Wk.Stp} {Aw:Option Addr} {cw:Nat} (hway:aE.Row w0 Aw way) (hwl:way.length<=1000) (s f:Int) (st:List Wk.Stp) (B:Option Addr) (d:Nat) (sum:Int) (hh:LookAt p A c A' c' b (.slice Aw way.length cw) g w0 wr n) (ho:OwnS w0.heap.size wr B d st) (hl:st.length<=16) (ht:n<=1000000)
 (hT:(decide (400<n+1) || Lp.bars b way st s)=true∨st.length=16) :
 Calls Tryz.prog 119 #[.pointer (some ⟨g,0,none⟩),.int .i64 s,.int .i64 f,.slice B st.length d,.int .i64 sum] wr (cN p A c A' c' b (.slice Aw way.length cw) g w0 (none,n+1) wr):=by
 --[
 obtain⟨⟨p0,p1,p2,p3,p4,p5,p6,p7,p8⟩,⟨-,-,-,-,-,-,-,-,f8⟩,gg⟩:=row9 hh.2.2
 have q1:IntKind.i64.wrap ((n:Int)+1)=(n:Int)+1:=IntWalk.i64_in _ (by omega)
 have HC:=Lib.hid hh.came
 have OC:=Lib.hid (aX ho HC.out.2 (by decide) (by decide))
 have RW:=Lib.hid (hway.below rfl HC.out.1.1)
 have FIN:=Lib.hid (show cN p A c A' c' b (.slice Aw way.length cw) g w0 (none,n+1) wr (.returned (.tuple #[.slice none 0 0,.bool false])) (wr.setCell ⟨g,8,none⟩ (.int .i64 ((n:Int)+1))) from⟨none,0,rfl,World.ownsRow_nil _ _ _ _,HC.out⟩)
 clear hh ho hway
 by_cases hm:400<n+1
 ·have D:decide (400<(n:Int)+1)=true:=aC (by omega)
  clear hT hm
  go_enter Tryz.func119,Tryz.ntmps119
  go_wp2_with fail
  refine bodyPost_ret ?_ rfl FIN.out
  simp[results,Tryz.results119,go_sem]
 have D:decide (400<(n:Int)+1)=false:=aB (by omega)
 by_cases hs:s=b
 ·have E:(s == b)=true:=by rw[beq_iff_eq];exact hs
  clear hT hm hs
  go_enter Tryz.func119,Tryz.ntmps119
  go_wp2_with fail
  refine bodyPost_ret ?_ rfl FIN.out
  simp[results,Tryz.results119,go_sem]
 have E:(s == b)=false:=by rw[ArU];exact hs
 have CW:=Lib.hid (bF Aw cw way s _ RW.out (by omega))
 have CS:=Lib.hid (bF B d st s _ (OwnS.row OC.out) (by omega))
 cases hw:Wk.within way s with
 | true =>
   rw[hw] at CW
   clear hT hm hs hw
   go_enter Tryz.func119,Tryz.ntmps119
   go_wp2_with fail
   refine CW.out.mono ?_;rintro e w1 ⟨rfl,rfl⟩
   go_wp2_with fail
   refine bodyPost_ret ?_ rfl FIN.out
   simp[results,Tryz.results119,go_sem]
 | false =>
   rw[hw] at CW
   cases hi:Wk.within st s with
   | true =>
     rw[hi] at CS
     clear hT hm hs hw hi
     go_enter Tryz.func119,Tryz.ntmps119
     go_wp2_with fail
     refine CW.out.mono ?_;rintro e w1 ⟨rfl,rfl⟩
     go_wp2_with fail
     refine CS.out.mono ?_;rintro e w1 ⟨rfl,rfl⟩
     go_wp2_with fail
     refine bodyPost_ret ?_ rfl FIN.out
     simp[results,Tryz.results119,go_sem]
   | false =>
     rw[hi] at CS
     have h16:st.length=16:=by
      rcases hT with hT|hT
      ·unfold Lp.bars at hT
       rw[decide_eq_false hm,decide_eq_false hs,hw,hi] at hT
       cases hT
      exact hT
     rw[h16] at CS ⊢
     clear hT hm hs hw hi
     go_enter Tryz.func119,Tryz.ntmps119
     go_wp2_with fail
     refine CW.out.mono ?_;rintro e w1 ⟨rfl,rfl⟩
     go_wp2_with fail
     refine CS.out.mono ?_;rintro e w1 ⟨rfl,rfl⟩
     go_wp2_with fail
     refine bodyPost_ret ?_ rfl FIN.out
     simp[results,Tryz.results119,go_sem]
 --]
end
end Go.Proofs.YtjofpclmbjpgjaaGreat
