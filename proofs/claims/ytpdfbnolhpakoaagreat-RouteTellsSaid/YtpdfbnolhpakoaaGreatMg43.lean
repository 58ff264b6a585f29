/-
  Texts of this claim, merged: RtOpen.
-/
import Derived.Test.YtpdfbnolhpakoaaGreatMg42
import Derived.Deep.Slices
namespace Go.Proofs.YtpdfbnolhpakoaaGreat
open Go.ChangeShapes Go.WideShapes Go.ChangeAt Go.RowKit
theorem okWide_arr {P:Program} {w:World} {r:Reach} {base:Nat} {t:TypeId} {v:Value} {n:Nat} {e:TypeId} (ht:P.underlying t=some (.array n e)) (h:Value.okWide P w r base t v):∃ cs,v=.agg cs∧cs.size=P.cellsOf t:=by
  simp only [Value.okWide,ht] at h
  obtain ⟨cs,h1,h2,_⟩:=h
  exact ⟨cs,h1,h2⟩
theorem cbyte:Tryz.prog.cellsOf 5=1:=by kernel_rfl
set_option maxRecDepth 100000 in
theorem open_bytes2 {H:Type} {enc:TypeId × Value→H} {w:World} {base b0:Nat} {r:Reach} {sp:Nat→Bool} {held:Bool} {v:Value} {d:DataW H} {p:List MemPlace}
    (hval:Value.okWide Tryz.prog w r b0 22 v) (hd:DataW.Trod enc Tryz.prog w base sp held 22 v d p):∃ a b:Int,v=.agg #[.int .u8 a,.int .u8 b]∧(Lit.int .u8 a).wf=true∧(Lit.int .u8 b).wf=true:=by
  obtain ⟨cs,rfl,_⟩:=okWide_arr Tryz.underlying22 hval
  obtain ⟨fuel,hf⟩:=hd
  obtain ⟨xs,f,_,_,hl,hlen,hi⟩:=DataW.trod_array Tryz.underlying22 hf
  obtain ⟨l⟩:=cs
  rw [show Tryz.prog.cellsOf 22=2 by kernel_rfl] at hl
  match l,hl with
  | [c0,c1],_ =>
    match xs,hlen with
    | [y0,y1],_ =>
      have h0:=hi 0 (by omega)
      have h1:=hi 1 (by omega)
      simp [cbyte,Value.cells] at h0 h1
      obtain ⟨k,hk,_,h3⟩:=DataW.trod_int Tryz.underlying5 h0
      obtain ⟨m,hm,_,h4⟩:=DataW.trod_int Tryz.underlying5 h1
      simp only [List.cons.injEq,and_true] at hk hm
      subst hk hm
      exact ⟨k,m,rfl,h3,h4⟩
end Go.Proofs.YtpdfbnolhpakoaaGreat
