/-
  Texts of this claim, merged: DmRef.
-/
import Derived.Test.YtpdfbnolhpakoaaGreatMg16
import Derived.BigQuiet
namespace Go.Proofs.YtpdfbnolhpakoaaGreat
open Go.RowKit
theorem Dm.posOf_drop {L:List Dm.Dem} {j:Nat} {x:Dm.Dem} (h:L[j]? = some x) (k:Int):Dm.posOf (L.drop j) k=if x.pt=k then x.pos else Dm.posOf (L.drop (j+1)) k:=by
  obtain ⟨hj,rfl⟩:=List.getElem?_eq_some_iff.1 h
  rw [List.drop_eq_getElem_cons hj,Dm.posOf_cons]
set_option maxHeartbeats 4000000 in
set_option maxRecDepth 100000 in
theorem rdPosition_any (A:Option Addr) (c:Nat) (L:List Dm.Dem) (k:Int) (w:World) (h:LDem.Row w A L) (hl:L.length≤1000000) :
    Calls Tryz.prog 21 #[.slice A L.length c,.int .i64 k] w (OneIs (.int .i64 (Dm.posOf L k)) w):=by
  --[
  have B0:=Lib.hid (Below.refl w.heap.size w)
  have HR:=Lib.hid h
  generalize hq:Dm.posOf L k=q
  have HQ:=Lib.hid hq
  clear h hq
  go_enter Tryz.func21,Tryz.ntmps21
  go_wp2_with fail
  go_loopw [5] (fun v w'=>∃ j:Nat,j≤L.length∧v=.int .i64 j∧Dm.posOf (L.drop j) k=q∧Below w.heap.size w w') (fun v _=>L.length - (intOf v).toNat)
  case atStart=>exact ⟨0,Nat.zero_le _,rfl,by rw[List.drop_zero];exact HQ.out,B0.out⟩
  case round =>
    obtain ⟨j,hj,rfl,hp,hb⟩:=hrel
    by_cases hlt:j<L.length
    · have hy:=List.getElem?_eq_getElem hlt
      obtain ⟨b,o,rfl,hbb,on⟩:=(HR.out.below rfl hb).at hlt
      generalize L[j]=x at hy on
      obtain ⟨c0,c1⟩:=dem_on on
      rw [show j * LDem.m=j * 2 from rfl] at c0 c1
      rw [Dm.posOf_drop hy] at hp
      have d1:decide ((j:Int)<(L.length:Int))=true:=dec_t (by omega)
      have i0:(0:Int)≤(j:Int):=Int.natCast_nonneg j
      have i1:(j:Int)<(L.length:Int):=by omega
      have HB:=Lib.hid hb
      have HP:=Lib.hid hp
      clear hb hy on hp
      by_cases hk:x.pt=k
      · have E:(x.pt == k)=true:=by rw[beq_iff_eq];exact hk
        have HP2:=Lib.hid (show x.pos=q from by have:=HP.out;rwa [if_pos hk] at this)
        clear hk
        go_wp2_with fail
        go_ret
        exact ⟨by rw[HP2.out] <;> rfl,HB.out⟩
      · have E:(x.pt == k)=false:=by rw[beq_eq_false_iff_ne];exact hk
        have HP2:=Lib.hid (show Dm.posOf (L.drop (j+1)) k=q from by have:=HP.out;rwa [if_neg hk] at this)
        clear hk
        go_wp2_with fail
        go_roundw
        case rel=>exact ⟨j+1,by omega,by go_num,HP2.out,HB.out⟩
        case measure=>simp [intOf];omega
    · obtain rfl:j=L.length:=by omega
      have d1:decide ((L.length:Int)<(L.length:Int))=false:=dec_f (by omega)
      rw [List.drop_length] at hp
      have HB:=Lib.hid hb
      have HP:=Lib.hid hp
      clear hb hp
      go_wp2_with fail
      go_ret
      exact ⟨by rw[← HP.out];rfl,HB.out⟩
  --]
set_option maxHeartbeats 4000000 in
set_option maxRecDepth 100000 in
theorem rdSame_any (A:Option Addr) (c:Nat) (L:List Dm.Dem) (A':Option Addr) (c':Nat) (M:List Dm.Dem) (w:World) (h:LDem.Row w A L) (hl:L.length≤1000000) (h':LDem.Row w A' M) (_hl':M.length≤1000000) :
    Calls Tryz.prog 26 #[.slice A L.length c,.slice A' M.length c'] w (OneIs (.bool (decide (L=M))) w):=by
  --[
  have B0:=Lib.hid (Below.refl w.heap.size w)
  have HR:=Lib.hid h
  have HR':=Lib.hid h'
  clear h h'
  by_cases hn:L.length=M.length
  · have E : ((L.length:Int) == (M.length:Int))=true:=by rw[beq_iff_eq];omega
    have HN:=Lib.hid hn
    go_enter Tryz.func26,Tryz.ntmps26
    go_wp2_with fail
    go_loopw [5] (fun v w'=>∃ j:Nat,j≤L.length∧v=.int .i64 j∧L.take j=M.take j∧Below w.heap.size w w') (fun v _=>L.length - (intOf v).toNat)
    case atStart=>exact ⟨0,Nat.zero_le _,rfl,rfl,B0.out⟩
    case round =>
      obtain ⟨j,hj,rfl,hp,hb⟩:=hrel
      by_cases hlt:j<L.length
      · have hy:=List.getElem?_eq_getElem hlt
        have hy':=List.getElem?_eq_getElem (show j<M.length by omega)
        have HB:=Lib.hid hb
        obtain ⟨b,o,rfl,hbb,on⟩:=(HR.out.below rfl hb).at hlt
        obtain ⟨b',o',rfl,hbb',on'⟩:=(HR'.out.below rfl hb).at (show j<M.length by omega)
        generalize L[j]=x at hy on
        generalize M[j]=y at hy' on'
        obtain ⟨c0,c1⟩:=dem_on on
        obtain ⟨c0',c1'⟩:=dem_on on'
        rw [show j * LDem.m=j * 2 from rfl] at c0 c1 c0' c1'
        have d1:decide ((j:Int)<(L.length:Int))=true:=dec_t (by omega)
        have i0:(0:Int)≤(j:Int):=Int.natCast_nonneg j
        have i1:(j:Int)<(L.length:Int):=by omega
        have i1':(j:Int)<(M.length:Int):=by omega
        have HY:=Lib.hid (And.intro hy hy')
        have HP:=Lib.hid hp
        clear hb hy hy' on on' hp E hn
        obtain ⟨p1,q1⟩:=x
        obtain ⟨p2,q2⟩:=y
        simp only at c0 c1 c0' c1'
        by_cases h1:p1=p2
        · have E1:(p1 == p2)=true:=by rw[beq_iff_eq];exact h1
          by_cases h2:q1=q2
          · have E2:(q1 == q2)=true:=by rw[beq_iff_eq];exact h2
            have HP2:=Lib.hid (show L.take (j+1)=M.take (j+1) from by
              rw [List.take_add_one,List.take_add_one,HY.out.1,HY.out.2,HP.out,h1,h2])
            clear h1 h2
            go_upto_region 6 with fail
            go_quiet (fail)
            go_wp2_with fail
            go_roundw
            case rel=>exact ⟨j+1,by omega,by go_num,HP2.out,below_drewN HB.out _⟩
            case measure=>simp [intOf];omega
          · have E2:(q1 == q2)=false:=by rw[beq_eq_false_iff_ne];exact h2
            have HF:=Lib.hid (show decide (L=M)=false from decide_eq_false fun e=>by
              have h3:=HY.out.1
              rw [e,HY.out.2] at h3
              cases h3
              exact h2 rfl)
            clear h1 h2
            go_upto_region 6 with fail
            go_quiet (fail)
            go_wp2_with fail
            go_ret
            exact ⟨by rw[HF.out] <;> rfl,below_drewN HB.out _⟩
        · have E1:(p1 == p2)=false:=by rw[beq_eq_false_iff_ne];exact h1
          have HF:=Lib.hid (show decide (L=M)=false from decide_eq_false fun e=>by
            have h3:=HY.out.1
            rw [e,HY.out.2] at h3
            cases h3
            exact h1 rfl)
          clear h1
          go_upto_region 6 with fail
          go_quiet (fail)
          go_wp2_with fail
          go_ret
          exact ⟨by rw[HF.out] <;> rfl,below_drewN HB.out _⟩
      · obtain rfl:j=L.length:=by omega
        have d1:decide ((L.length:Int)<(L.length:Int))=false:=dec_f (by omega)
        have HB:=Lib.hid hb
        have HP:=Lib.hid (show decide (L=M)=true from decide_eq_true (by
          rw [List.take_length,hn,List.take_length] at hp
          exact hp))
        clear hb hp hn E
        go_wp2_with fail
        go_ret
        exact ⟨by rw[HP.out] <;> rfl,HB.out⟩
  · have E:((L.length:Int) == (M.length:Int))=false:=by rw[beq_eq_false_iff_ne];omega
    have P:=Lib.hid (show decide (L=M)=false from decide_eq_false fun h=>hn (by rw[h]))
    clear hn
    go_enter Tryz.func26,Tryz.ntmps26
    go_wp2_with fail
    go_ret
    exact ⟨by rw[P.out] <;> rfl,B0.out⟩
  --]
end Go.Proofs.YtpdfbnolhpakoaaGreat
