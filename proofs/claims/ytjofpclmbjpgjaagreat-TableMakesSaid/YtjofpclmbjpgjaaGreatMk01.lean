/- Lemmas. -/
import Derived.Test.YtjofpclmbjpgjaaGreatMk99
import Derived.Test.YtjofpclmbjpgjaaGreatMk98
import Derived.Test.YtjofpclmbjpgjaaGreatRows
import Derived.BigQuiet
import Derived.Carry
import Derived.Deep.DeepHandedRow
import Derived.Deep.QuietTactic
import Derived.Deep.RegionWith
import Derived.Lib.AppendIntMem
import Derived.Lib.Hide
import Derived.Lib.ItoaLen
import Derived.Lib.ItoaNum
import Derived.Lib.Join
import Derived.Lib.LaidTab
import Derived.Lib.Split
import Derived.Lib.SplitLaws
import Derived.OpenShut
import Derived.ProofKit
import Derived.Stop.LaidErr
import Derived.WalkKit
import Derived.WalkLawsBesides
import Derived.WalkSpells
set_option maxHeartbeats 1000000
set_option maxRecDepth 100000
namespace Go.Proofs.YtjofpclmbjpgjaaGreat.Fig
open Lib (hid)
def dig (c:UInt8):Bool:=decide (48<=(c.toNat:Int)/\(c.toNat:Int)<=57)
def let_ (c:UInt8):Bool:=decide ((97<=(c.toNat:Int)/\(c.toNat:Int)<=122)∨(65<=(c.toNat:Int)/\(c.toNat:Int)<=90))
def nameB (l:List UInt8):Bool:=decide (1<=l.length/\l.length<=8) && l.all λc=>dig c || let_ c
def val (l:List UInt8):Int:=l.foldl (λn c=>10*n+((c.toNat:Int)-48)) 0
def pad (l:List UInt8):Bool:=decide (1<l.length) && l.head? == some 48
def form (l:List UInt8):Bool:=decide (1<=l.length/\l.length<=13) && !pad l && l.all dig
def parseB (l:List UInt8) (most:Int):Bool:=form l && decide (val l<=most)
def parseN (l:List UInt8) (most:Int):Int:=if parseB l most then val l else 0
theorem val_snoc (l:List UInt8) (c:UInt8):val (l++[c])=10*val l+((c.toNat:Int)-48):=by
 simp[val,List.foldl_append]
theorem val_bd (l:List UInt8) (h:l.all dig=true):0<=val l/\val l<10 ^ l.length:=by
 suffices H:∀ (r:List UInt8),r.all dig=true->0<=val r.reverse/\val r.reverse<10 ^ r.length by
  have:=H l.reverse (by simpa using h)
  simpa using this
 intro r
 induction r with
 | nil=>intro _;simp[val]
 | cons c r ih =>
   intro h
   simp only[List.all_cons,AsF] at h
   have h1:=ih h.2
   have h2:48<=(c.toNat:Int)/\(c.toNat:Int)<=57:=by simpa [dig] using h.1
   rw[List.reverse_cons,val_snoc]
   simp only[AsJ,Int.pow_succ]
   omega
end Go.Proofs.YtjofpclmbjpgjaaGreat.Fig
namespace Go.Proofs.YtjofpclmbjpgjaaGreat
open Lib (hid)
open Go.RowKit
theorem mV {a b:Bool} (h:a=b):Ending.returned (.bool a)=.returned (.bool b):=by rw[h]
theorem kT (c:UInt8) (w:World) :
 Calls Tryz.prog 89 #[.int .u8 c.toNat] w λe w'=>e=.returned (.bool (Fig.dig c))/\w=w':=by
 go_enter Tryz.func89,Tryz.ntmps89
 go_wp2
 all_goals (go_ret;refine⟨mV ?_,rfl⟩;simp[Fig.dig];try omega)
theorem eC (c:UInt8) (w:World) :
 Calls Tryz.prog 81 #[.int .u8 c.toNat] w λe w'=>e=.returned (.bool (Fig.dig c))/\w=w':=by
 go_enter Tryz.func81,Tryz.ntmps81
 go_wp2
 all_goals (go_ret;refine⟨mV ?_,rfl⟩;simp[Fig.dig];try omega)
theorem iQ (c:UInt8) (w:World) :
 Calls Tryz.prog 90 #[.int .u8 c.toNat] w λe w'=>e=.returned (.bool (Fig.let_ c))/\w=w':=by
 go_enter Tryz.func90,Tryz.ntmps90
 go_wp2
 all_goals (go_ret;refine⟨mV ?_,rfl⟩;rw[Bool.eq_iff_iff];simp[Fig.let_];try omega)
theorem vP (s:ByteArray) (h:0<s.size) (h1:1<s.size):Fig.pad s.data.toList=((s[0].toNat:Int) == 48):=by
 have e:s.data.toList.head?=some s[0]:=by
  rw[List.head?_eq_getElem?]
  exact ArN (by simpa using h)
 have hl:1<s.data.toList.length:=by simpa using h1
 rw[Fig.pad,e,Bool.eq_iff_iff]
 simp only[hl,decide_true,Bool.true_and,beq_iff_eq,Option.some.injEq]
 constructor
 ·intro h;rw[h];rfl
 intro h;exact UInt8.toNat_inj.mp (by simpa using Int.ofNat.inj h)
theorem AdJ (s:ByteArray) (h:Fig.pad s.data.toList=true):1<s.size/\∀ h0:0<s.size,((s[0]'h0).toNat:Int)=48:=by
 by_cases h1:1<s.size
 ·refine⟨h1,λh0=>?_⟩
  rw[vP s h0 h1] at h
  exact beq_iff_eq.mp h
 rw[Fig.pad,show decide (1<s.data.toList.length)=false by simpa using h1] at h
 cases h
theorem dU (s:ByteArray) (k:Nat) (h:k<s.size):s.data.toList.take (k+1)=s.data.toList.take k++[s[k]]:=by
 rw[AsK (by simpa using h)];rfl
theorem vQ {a b:Int} {p q:Bool} (h:a=b) (k:p=q):Ending.returned (.tuple #[.int .i64 a,.bool p])=.returned (.tuple #[.int .i64 b,.bool q]):=by rw[h,k]
theorem nU (l:List UInt8) (most:Int) (h:Fig.form l=false):Fig.parseN l most=0/\Fig.parseB l most=false:=by
 simp[Fig.parseN,Fig.parseB,h]
theorem AeX {p:UInt8->Bool} {l:List UInt8} {k:Nat} (h:k<l.length) (hp:p l[k]=false):l.all p=false:=by
 rw[List.all_eq_false];exact⟨_,List.getElem_mem h,by simp[hp]⟩
theorem AiP (s:ByteArray) (h1:¬ s.size=0) (h2:¬ 13<s.size) (h3:Fig.pad s.data.toList=false):Fig.form s.data.toList=s.data.toList.all Fig.dig:=by
 have:decide (1<=s.data.toList.length/\s.data.toList.length<=13)=true:=by simp;omega
 rw[Fig.form,this,h3];simp
theorem AeY (s:ByteArray) (h0:s.size=0∨13<s.size):Fig.form s.data.toList=false:=by
 have:decide (1<=s.data.toList.length/\s.data.toList.length<=13)=false:=by
  have:s.data.toList.length=s.size:=by simp
  rw[decide_eq_false_iff_not];omega
 rw[Fig.form,this];rfl
theorem AiQ {n:Nat} (h:n=0):((n:Int) == 0)=true:=by subst h;rfl
theorem sR {n:Nat} (h:n≠0):((n:Int) == 0)=false:=by
 rw[ArU];omega
theorem aB {p:Prop} [Decidable p] (h:¬ p):decide p=false:=decide_eq_false h
theorem aC {p:Prop} [Decidable p] (h:p):decide p=true:=decide_eq_true h
theorem zT {c:UInt8} (h:Fig.dig c=true):48<=(c.toNat:Int)/\(c.toNat:Int)<=57:=by simpa [Fig.dig] using h
theorem eD {p:UInt8->Bool} {s:ByteArray} {k:Nat} (hk:k<s.size) (h:(s.data.toList.take k).all p=true) (hc:p s[k]=true):(s.data.toList.take (k+1)).all p=true:=by
 rw[dU s k hk,List.all_append,h];simpa using hc
theorem vT {p:UInt8->Bool} {s:ByteArray} {k:Nat} (hk:k<s.size) (hc:p s[k]=false):s.data.toList.all p=false :=
 AeX (k:=k) (by simpa using hk) hc
theorem AiR (s:ByteArray) (k:Nat) (hk:k<s.size):Fig.val (s.data.toList.take (k+1))=10*Fig.val (s.data.toList.take k)+((s[k].toNat:Int)-48):=by
 rw[dU s k hk,Fig.val_snoc]
theorem AeZ {k:Nat} (h:k<=13):(10:Int) ^ k<=10000000000000:=by
 have:(10:Nat) ^ k<=10 ^ 13:=Nat.pow_le_pow_right (by omega) h
 have h2:((10 ^ k:Nat):Int)<=((10 ^ 13:Nat):Int):=Int.ofNat_le.mpr this
 simpa using h2
theorem AfA (s:ByteArray) (k:Nat) (h:k<=13) (hd:(s.data.toList.take k).all Fig.dig=true):0<=Fig.val (s.data.toList.take k)/\Fig.val (s.data.toList.take k)<10000000000000:=by
 have hv:=Fig.val_bd _ hd
 have hl:(s.data.toList.take k).length<=13:=by simp;omega
 have:=AeZ hl
 omega
theorem AfB (s:ByteArray) (most:Int) (h:Fig.form s.data.toList=true):Fig.parseN s.data.toList most=(if Fig.val s.data.toList<=most then Fig.val s.data.toList else 0)/\Fig.parseB s.data.toList most=decide (Fig.val s.data.toList<=most):=by
 simp[Fig.parseN,Fig.parseB,h]
theorem AiS {n v most:Int} {b:Bool} (h:n=(if v<=most then v else 0)/\b=decide (v<=most)) (hm:v<=most):n=v/\b=true:=by
 rw[h.1,h.2,ArZ hm];exact⟨rfl,aC hm⟩
theorem AfC {n v most:Int} {b:Bool} (h:n=(if v<=most then v else 0)/\b=decide (v<=most)) (hm:¬ v<=most):n=0/\b=false:=by
 rw[h.1,h.2,ArY hm];exact⟨rfl,aB hm⟩
theorem zU (s:ByteArray) (most:Int) (w:World) (hs:s.size<=maxLen) :
 Calls Tryz.prog 48 #[.string s,.int .i64 most] w λe w'=>e=.returned (.tuple #[.int .i64 (Fig.parseN s.data.toList most),.bool (Fig.parseB s.data.toList most)])/\w=w':=by
 unfold maxLen at hs
 by_cases h0:s.size=0∨13<s.size
 ·have H:=hid (nU s.data.toList most (AeY s h0))
  have h0':((s.size:Int) == 0)=true∨(((s.size:Int) == 0)=false/\decide (13<(s.size:Int))=true):=by
   by_cases h:s.size=0
   ·exact Or.inl (AiQ h)
   exact Or.inr ⟨sR h,aC (by omega)⟩
  clear h0
  rcases h0' with h0'|⟨h0',h1⟩
  all_goals
   go_enter Tryz.func48,Tryz.ntmps48
   go_wp2
   go_ret2
   exact⟨vQ H.out.1.symm H.out.2.symm,rfl⟩
 have h0a:((s.size:Int) == 0)=false:=sR (by omega)
 have h0b:decide (13<(s.size:Int))=false:=aB (by omega)
 have h0c:s.size<=13:=by omega
 by_cases hp:Fig.pad s.data.toList=true
 ·have H:=hid (nU s.data.toList most (by rw[Fig.form,hp];simp))
  have hz:0<s.size:=by omega
  have h1a:decide (1<(s.size:Int))=true:=aC (by have:=(AdJ s hp).1;omega)
  have h1c:((s[0].toNat:Int) == 48)=true:=by rw[(AdJ s hp).2 hz];rfl
  clear h0 h0c
  go_enter Tryz.func48,Tryz.ntmps48
  go_wp2
  go_ret2
  exact⟨vQ H.out.1.symm H.out.2.symm,rfl⟩
 have hp':Fig.pad s.data.toList=false:=by simpa using hp
 have H:=hid (AiP s (by omega) (by omega) hp')
 have hz:0<s.size:=by omega
 have h1:(decide (1<(s.size:Int))=true/\((s[0].toNat:Int) == 48)=false)∨decide (1<(s.size:Int))=false:=by
  by_cases h1:1<s.size
  ·exact Or.inl ⟨aC (by omega),by rw[<-vP s hz h1];exact hp'⟩
  exact Or.inr (aB (by omega))
 clear h0 hp
 rcases h1 with ⟨h1a,h1c⟩|h1a
 all_goals
  go_enter Tryz.func48,Tryz.ntmps48
  go_wp2_with fail
  go_loop [6,7] (λn i=>∃ k:Nat,k<=s.size/\i=.int .i64 k/\n=.int .i64 (Fig.val (s.data.toList.take k))/\(s.data.toList.take k).all Fig.dig=true) (λ_ i=>s.size-(intOf i).toNat)
  case atStart=>exact⟨0,AsD _,rfl,rfl,rfl⟩
  case round =>
   obtain⟨k,hk,rfl,rfl,hd⟩:=hrel
   have hv:=AfA s k (by omega) hd
   by_cases hlt:k<s.size
   ·by_cases hc:Fig.dig s[k]=true
    ·have hb:=zT hc
     have HS:=hid (AiR s k hlt)
     have HD:=hid (eD hlt hd hc)
     clear hd
     go_wp2_with (go_at_call 81;refine(eC _ _).mono ?_;rintro e w' ⟨rfl,rfl⟩)
     go_round
     case rel=>exact⟨k+1,by omega,by go_num,by rw[HS.out],HD.out⟩
     case measure=>simp[intOf];omega
    have hc':Fig.dig s[k]=false:=by simpa using hc
    have HF:=hid (nU s.data.toList most (by rw[H.out];exact vT hlt hc'))
    clear hd hc
    go_wp2_with (go_at_call 81;refine(eC _ _).mono ?_;rintro e w' ⟨rfl,rfl⟩)
    go_ret2
    exact⟨vQ HF.out.1.symm HF.out.2.symm,rfl⟩
   have hks:k=s.size:=by omega
   subst hks
   have ht:s.data.toList.take s.size=s.data.toList:=AsT (by simp)
   rw[ht] at hd hv
   rw[ht]
   have hn:=AfB s most (by rw[H.out];exact hd)
   have HN:=hid hn
   clear hd ht hn
   by_cases hm:Fig.val s.data.toList<=most
   ·have HM:=hid (AiS HN.out hm)
    have hm':decide (most<Fig.val s.data.toList)=false:=aB (by omega)
    clear hm
    go_wp2
    go_ret2
    exact⟨vQ HM.out.1.symm HM.out.2.symm,rfl⟩
   have HM:=hid (AfC HN.out hm)
   have hm':decide (most<Fig.val s.data.toList)=true:=aC (by omega)
   clear hm
   go_wp2
   go_ret2
   exact⟨vQ HM.out.1.symm HM.out.2.symm,rfl⟩
abbrev Fig.al (c:UInt8):Bool:=Fig.dig c || Fig.let_ c
theorem AiT (s:ByteArray) (h0:¬ s.size=0) (h1:¬ 8<s.size):Fig.nameB s.data.toList=s.data.toList.all λc=>Fig.dig c || Fig.let_ c:=by
 have:decide (1<=s.data.toList.length/\s.data.toList.length<=8)=true:=aC (by simp;omega)
 rw[Fig.nameB,this];simp
theorem AfD (s:ByteArray) (h0:s.size=0∨8<s.size):Fig.nameB s.data.toList=false:=by
 have:decide (1<=s.data.toList.length/\s.data.toList.length<=8)=false:=aB (by simp;omega)
 rw[Fig.nameB,this];rfl
theorem vU (s:ByteArray) (k:Nat) (hk:k<s.size) (h:Fig.dig s[k]=false) (h2:Fig.let_ s[k]=false):Fig.nameB s.data.toList=false:=by
 rw[Fig.nameB,vT (p:=λc=>Fig.dig c || Fig.let_ c) hk (by rw[h,h2];rfl)];simp
theorem AfE (s:ByteArray) (h:s.data.toList.all (λc=>Fig.dig c || Fig.let_ c)=true):Fig.nameB s.data.toList=decide (1<=s.size/\s.size<=8):=by
 rw[Fig.nameB,h];simp
theorem AiU (s:ByteArray) (w:World) (hs:s.size<=maxLen) :
 Calls Tryz.prog 60 #[.string s] w λe w'=>e=.returned (.bool (Fig.nameB s.data.toList))/\w=w':=by
 unfold maxLen at hs
 by_cases h0:s.size=0∨8<s.size
 ·have H:=hid (AfD s h0)
  have h0':((s.size:Int) == 0)=true∨(((s.size:Int) == 0)=false/\decide (8<(s.size:Int))=true):=by
   by_cases h:s.size=0
   ·exact Or.inl (AiQ h)
   exact Or.inr ⟨sR h,aC (by omega)⟩
  clear h0
  rcases h0' with h0'|⟨h0',h1⟩
  all_goals
   go_enter Tryz.func60,Tryz.ntmps60
   go_wp2
   go_ret
   exact⟨mV H.out.symm,rfl⟩
 have h0a:((s.size:Int) == 0)=false:=sR (by omega)
 have h0b:decide (8<(s.size:Int))=false:=aB (by omega)
 have h0c:s.size<=8:=by omega
 have H:=hid (AiT s (by omega) (by omega))
 clear h0
 go_enter Tryz.func60,Tryz.ntmps60
 go_wp2_with fail
 go_loop [14] (λi=>∃ k:Nat,k<=s.size/\i=.int .i64 k/\(s.data.toList.take k).all (λc=>Fig.dig c || Fig.let_ c)=true) (λi=>s.size-(intOf i).toNat)
 case atStart=>exact⟨0,AsD _,rfl,rfl⟩
 case round =>
  obtain⟨k,hk,rfl,hd⟩:=hrel
  by_cases hlt:k<s.size
  ·by_cases hc:Fig.dig s[k]=true
   ·have HD:=hid (eD hlt hd (by rw[hc];rfl))
    clear hd
    go_wp2_with (first|(go_at_call 89;refine(kT _ _).mono ?_;rintro e w' ⟨rfl,rfl⟩)|(go_at_call 90;refine(iQ _ _).mono ?_;rintro e w' ⟨rfl,rfl⟩))
    go_round
    case rel=>exact⟨k+1,by omega,by go_num,HD.out⟩
    case measure=>simp[intOf];omega
   have hc':Fig.dig s[k]=false:=by simpa using hc
   by_cases hl:Fig.let_ s[k]=true
   ·have HD:=hid (eD hlt hd (by rw[hc',hl];rfl))
    clear hd hc
    go_wp2_with (first|(go_at_call 89;refine(kT _ _).mono ?_;rintro e w' ⟨rfl,rfl⟩)|(go_at_call 90;refine(iQ _ _).mono ?_;rintro e w' ⟨rfl,rfl⟩))
    go_round
    case rel=>exact⟨k+1,by omega,by go_num,HD.out⟩
    case measure=>simp[intOf];omega
   have hl':Fig.let_ s[k]=false:=by simpa using hl
   have HF:=hid (vU s k hlt hc' hl')
   clear hd hc hl
   go_wp2_with (first|(go_at_call 89;refine(kT _ _).mono ?_;rintro e w' ⟨rfl,rfl⟩)|(go_at_call 90;refine(iQ _ _).mono ?_;rintro e w' ⟨rfl,rfl⟩))
   go_ret
   exact⟨mV HF.out.symm,rfl⟩
  have hks:k=s.size:=by omega
  subst hks
  have ht:s.data.toList.take s.size=s.data.toList:=AsT (by simp)
  rw[ht] at hd
  have HF:=hid (H.out.trans hd)
  clear hd ht
  go_wp2
  go_ret
  exact⟨mV HF.out.symm,rfl⟩
theorem AnB {c:UInt8} (h:Fig.let_ c=true):(97<=(c.toNat:Int)/\(c.toNat:Int)<=122)∨(65<=(c.toNat:Int)/\(c.toNat:Int)<=90):=by
 exact of_decide_eq_true h
theorem ApE {c:UInt8} (h:Fig.let_ c=false):¬ ((97<=(c.toNat:Int)/\(c.toNat:Int)<=122)∨(65<=(c.toNat:Int)/\(c.toNat:Int)<=90)):=by
 exact of_decide_eq_false h
theorem qN (s:ByteArray) (w:World) (hs:s.size<=maxLen) :
 Calls Tryz.prog 46 #[.string s] w λe w'=>e=.returned (.bool (Fig.nameB s.data.toList))/\w=w':=by
 unfold maxLen at hs
 go_enter Tryz.func46,Tryz.ntmps46
 go_wp2_with fail
 go_loop [3] (λi=>∃ k:Nat,k<=s.size/\i=.int .i64 k/\(s.data.toList.take k).all (λc=>Fig.dig c || Fig.let_ c)=true) (λi=>s.size-(intOf i).toNat)
 case atStart=>exact⟨0,AsD _,rfl,rfl⟩
 case round =>
  obtain⟨k,hk,rfl,hd⟩:=hrel
  by_cases hlt:k<s.size
  ·by_cases hc:Fig.dig s[k]=true
   ·have HD:=hid (eD hlt hd (by rw[hc];rfl))
    clear hd
    go_wp2_with (go_at_call 81;refine(eC _ _).mono ?_;rintro e w' ⟨rfl,rfl⟩)
    go_round
    case rel=>exact⟨k+1,by omega,by go_num,HD.out⟩
    case measure=>simp[intOf];omega
   have hc':Fig.dig s[k]=false:=by simpa using hc
   by_cases hl:Fig.let_ s[k]=true
   ·have HD:=hid (eD hlt hd (by rw[hc',hl];rfl))
    have hy:(decide ((s[k].toNat:Int)<65)=false/\decide (90<(s[k].toNat:Int))=true/\decide ((s[k].toNat:Int)<97)=false/\decide (122<(s[k].toNat:Int))=false)∨(decide ((s[k].toNat:Int)<65)=false/\decide (90<(s[k].toNat:Int))=false):=by
     rcases AnB hl with h|h
     ·exact Or.inl ⟨aB (by omega),aC (by omega),aB (by omega),aB (by omega)⟩
     exact Or.inr ⟨aB (by omega),aB (by omega)⟩
    clear hd hc hl
    rcases hy with ⟨hy1,hy2,hy3,hy4⟩|⟨hy1,hy2⟩
    all_goals
     go_wp2_with (go_at_call 81;refine(eC _ _).mono ?_;rintro e w' ⟨rfl,rfl⟩)
     go_round
     case rel=>exact⟨k+1,by omega,by go_num,HD.out⟩
     case measure=>simp[intOf];omega
   have hl':Fig.let_ s[k]=false:=by simpa using hl
   have HF:=hid (vU s k hlt hc' hl')
   have hy:(decide ((s[k].toNat:Int)<65)=true/\decide ((s[k].toNat:Int)<97)=true)∨(decide ((s[k].toNat:Int)<65)=false/\decide (90<(s[k].toNat:Int))=true/\decide ((s[k].toNat:Int)<97)=true)∨(decide ((s[k].toNat:Int)<65)=false/\decide (90<(s[k].toNat:Int))=true/\decide ((s[k].toNat:Int)<97)=false/\decide (122<(s[k].toNat:Int))=true):=by
    have hn:=ApE hl'
    by_cases h65:(s[k].toNat:Int)<65
    ·exact Or.inl ⟨aC h65,aC (by omega)⟩
    by_cases h97:(s[k].toNat:Int)<97
    ·exact Or.inr (Or.inl ⟨aB h65,aC (by omega),aC h97⟩)
    exact Or.inr (Or.inr ⟨aB h65,aC (by omega),aB h97,aC (by omega)⟩)
   clear hd hc hl
   rcases hy with ⟨hy1,hy2⟩|⟨hy1,hy2,hy3⟩|⟨hy1,hy2,hy3,hy4⟩
   all_goals
    go_wp2_with (go_at_call 81;refine(eC _ _).mono ?_;rintro e w' ⟨rfl,rfl⟩)
    go_ret
    exact⟨mV HF.out.symm,rfl⟩
  have hks:k=s.size:=by omega
  subst hks
  have ht:s.data.toList.take s.size=s.data.toList:=AsT (by simp)
  rw[ht] at hd
  have HF:=hid (AfE s hd)
  have hy:(decide (1<=(s.size:Int))=true/\decide (1<=s.size/\s.size<=8)=decide ((s.size:Int)<=8))∨(decide (1<=(s.size:Int))=false/\decide (1<=s.size/\s.size<=8)=false):=by
   by_cases h1:1<=s.size
   ·refine Or.inl ⟨aC (by omega),?_⟩
    rw[Bool.eq_iff_iff];simp;omega
   exact Or.inr ⟨aB (by omega),aB (by omega)⟩
  clear hd ht
  rcases hy with ⟨hy1,hy2⟩|⟨hy1,hy2⟩
  all_goals
   have HG:=hid (HF.out.trans hy2)
   clear hy2
   go_wp2
   go_ret
   exact⟨mV HG.out.symm,rfl⟩
def txt (x:List UInt8):ByteArray:=⟨x.toArray⟩
def str (x:List UInt8):Value:=.string (txt x)
theorem aT (x:List UInt8):(txt x).data.toList=x:=by simp[txt]
theorem bJ (x:List UInt8):(txt x).size=x.length:=by simp[txt,ByteArray.size]
theorem iR (s:ByteArray):txt s.data.toList=s:=by simp[txt]
theorem bK (x:List UInt8):(txt x).toList=x:=by rw[ByteArray.toList_eq,aT]
theorem AqG {a b:List UInt8} (h:a=b):Ending.returned (.string ⟨a.toArray⟩)=.returned (.string ⟨b.toArray⟩):=by rw[h]
theorem bcell {W w1:World} (hb:Below W.heap.size W w1):(∀ b o,b<W.heap.size->w1.cell? ⟨b,o,none⟩=W.cell? ⟨b,o,none⟩)/\(∀ b o,b<W.heap.size->w1.frozen? ⟨b,o,none⟩=W.frozen? ⟨b,o,none⟩) :=
 ⟨λb o h=>hb.cell (p:=⟨b,o,none⟩) h,λb o h=>hb.frozen (p:=⟨b,o,none⟩) h⟩
theorem nV (w:World) (b:Nat) (x:Int) (h:w.cell? ⟨b,0,none⟩=some (.int .u8 x)) :
 Sem.run Tryz.prog (convert 184 9 (.slice (some ⟨b,0,none⟩) 1 1)) w=.ok (.string ⟨#[UInt8.ofNat x.toNat]⟩) w:=by
 have:=run_convert_bytes_arg (P:=Tryz.prog) (w:=w) 184 5 Tryz.underlying184 Tryz.underlying5 b 0 1 1 [x] rfl (λi hi=>by
  obtain rfl:i=0:=by omega
  simpa using h) 9 Tryz.underlying9
 exact this
theorem sS (w:World) (x:Int) :
 Sem.run Tryz.prog (convert 184 9 (.slice (some ⟨w.heap.size,0,none⟩) 1 1)) (w.alloc (.cells #[.int .u8 x] 5))=.ok (.string ⟨#[UInt8.ofNat x.toNat]⟩) (w.alloc (.cells #[.int .u8 x] 5)) :=
 nV _ _ _ (by
  show (w.alloc (.cells #[.int .u8 x] 5)).cell? ⟨w.heap.size,0,none⟩=_
  go_simp)
theorem AqH (n:Int) (h:0<=n/\n<=255):IntKind.u8.wrap n=n:=by
 unfold IntKind.wrap;simp[IntKind.bits,IntKind.signed];omega
theorem qO (n:Int) (h0:0<=n) (h1:n<10):[UInt8.ofNat (48+n).toNat]=Lib.decDigits n.toNat:=by
 rw[Lib.decDigits_one (by omega)]
 congr 2;omega
theorem AiV {a b:ByteArray} (h:a=b):Ending.returned (.string a)=.returned (.string b):=by rw[h]
theorem zV (n:Int) (h1:10<=n):(ByteArray.mk (Lib.decDigits (n / 10).toNat).toArray++ByteArray.mk #[UInt8.ofNat (48+n % 10).toNat])=⟨(Lib.decDigits n.toNat).toArray⟩:=by
 have e:(ByteArray.mk #[UInt8.ofNat (48+n % 10).toNat])=ByteArray.mk [UInt8.ofNat (48+n % 10).toNat].toArray:=rfl
 rw[e,ByteArray.mk_append_mk]
 have:Lib.decDigits n.toNat=Lib.decDigits (n.toNat / 10)++[UInt8.ofNat (48+n.toNat % 10)]:=by
  conv=>lhs;rw[Lib.decDigits,dif_neg (by omega)]
 rw[this,show (n / 10).toNat=n.toNat / 10 by omega,show (48+n % 10).toNat=48+n.toNat % 10 by omega]
theorem zW (k:Nat):∀ (n:Int) (w:World),0<=n->n<=k->n<=9223372036854775807 ->
 Calls Tryz.prog 83 #[.int .i64 n] w λe w'=>e=.returned (.string ⟨(Lib.decDigits n.toNat).toArray⟩)/\Below w.heap.size w w':=by
 induction k with
 | zero =>
   intro n w h0 hk h1
   have hconv:=sS w (48+n)
   go_enter Tryz.func83,Tryz.ntmps83
   go_wp2
   go_ret
   exact⟨AqG (qO n h0 (by omega)),(Below.refl _ _).alloc (ArR _) _⟩
 | succ k ih =>
   intro n w h0 hk h1
   by_cases hn:n<10
   ·have hconv:=sS w (48+n)
    have H:=hid (qO n h0 hn)
    go_enter Tryz.func83,Tryz.ntmps83
    go_wp2
    go_ret
    exact⟨AqG H.out,(Below.refl _ _).alloc (ArR _) _⟩
   have ih':=λW=>ih (n / 10) W (by omega) (by omega) (by omega)
   have I:=hid ih'
   have H:=hid (zV n (by omega))
   clear ih ih'
   have hm:0<=n % 10:=by omega
   have hm2:n % 10<10:=by omega
   have q1:IntKind.i64.wrap (n.tdiv 10)=n / 10:=by rw[Int.tdiv_eq_ediv_of_nonneg h0];exact IntWalk.i64_in _ (by omega)
   have q2:n.tmod 10=n % 10:=Int.tmod_eq_emod_of_nonneg h0
   have q3:IntKind.i64.wrap (48+n % 10)=48+n % 10:=IntWalk.i64_in _ (by omega)
   have q4:IntKind.u8.wrap (48+n % 10)=48+n % 10:=AqH _ (by omega)
   have hL:(Lib.decDigits (n / 10).toNat).length<=20:=by rw[Lib.decDigits_length];exact Lib.nDigits_le20 _ (by omega)
   have hL2:¬ (9223372036854775807<(Lib.decDigits (n / 10).toNat).length+1):=by omega
   have hA:=λW=>sS W (48+n % 10)
   have hB:=λW b=>nV W b (48+n % 10)
   go_enter Tryz.func83,Tryz.ntmps83
   go_wp2_with fail
   go_region_with (first|(go_at_call 83;refine(I.out _).mono ?_;rintro e w' ⟨rfl,hb⟩;have hcell:=(bcell hb).1))
   all_goals go_wp2_with fail
   all_goals go_ret
   ·exact⟨AiV H.out,(Below.trans (b:=w.drew) (AtB w).drew hb).alloc hb.size _⟩
   all_goals exact⟨AiV H.out,((AtB w).alloc (ArR _) _).drew.trans (hb.mono (B':=w.heap.size) (by simp))⟩
open Go.ChangeShapes Go.WideShapes Go.ChangeAt Go.RowKit
theorem ownKnobNone:ownKnob Tryz.prog.godebug=none:=by kernel_rfl
theorem laidOut:laidOutB Tryz.prog=true:=by kernel_rfl
theorem jI {H:Type} {enc:TypeId × Value->H} {P:Program} (hl:laidOutB P=true) {W W':World} {sp:Nat->Bool} (hb:Below W.heap.size W W') :
 ∀ {ts:List TypeId} {vs:List Value} {ds:List (DataW H)} {ps:List MemPlace},(ts.all λt=>P.readableRec t && decide (t<P.types.size))=true ->
   DataW.TrodAll enc P W 0 (λ_=>true) true ts vs ds ps->(∀ x∈ps,x.block<W.heap.size)->(∀ x∈ps,sp x.block=true)->DataW.TrodAll enc P W' 0 sp true ts vs ds ps
 | [],[],[],_,_,h,_,_=>h
 | t :: ts,v :: vs,d :: ds,ps,hr,h,hlt,hs=>by
   obtain⟨p,q,h1,h2,rfl⟩:=h
   simp only[List.all_cons,AsF,decide_eq_true_eq] at hr
   exact⟨p,q,Go.WideElems.Trod_stays hl hr.1.1 hr.1.2 h1 (λx hx=>hb.same (hlt x (List.mem_append_left _ hx))) (λx hx=>hs x (List.mem_append_left _ hx)),
    jI hl hb (by simpa using hr.2) h2 (λx hx=>hlt x (List.mem_append_right _ hx)) (λx hx=>hs x (List.mem_append_right _ hx)),rfl⟩
 | [],_ :: _,_,_,_,h,_,_=>h.elim
 | _ :: _,[],_,_,_,h,_,_=>h.elim
 | [],[],_ :: _,_,_,h,_,_=>h.elim
 | _ :: _,_ :: _,[],_,_,h,_,_=>h.elim
theorem post_law {H:Type} {enc:TypeId × Value->H} {P:Program} {f:Func} {s:ChangeSpec} {W W':World} {args:Array Value} {ds gs:List (DataW H)} {before:List MemPlace} {tb:TypeId}
 (hl:laidOutB P=true) (hv:s.vars=[]) (hr:f.resultTypes=#[tb]) (ht:P.underlying tb=some .bool)
 (hp:(f.params.toList.all λt=>P.readableRec t && decide (t<P.types.size))=true)
 (hfn:s.fn H (ds++gs)={ results:=[.lit (.bool true)],args:=ds })
 (hW:DataW.Whole enc P f.params.toList s.vars false W args.toList ds gs before) (hb:Below W.heap.size W W') :
 s.post enc P f false true false false W args (.bool true) W':=by
 have hlt:∀ p∈before,p.block<W.heap.size:=λp hp=>hW.lt p hp
 have hW2:=hW
 obtain⟨p,q,hA,hV,rfl,_,_⟩:=hW
 rw[hv] at hV
 obtain⟨rfl,rfl⟩:=trodVars_none hV
 simp only[AsM] at hlt hW2
 refine⟨ds,[],p,[],p,[],hW2,?_,?_,?_,?_,λh=>by cases h⟩
 ·rw[hfn,hr]
  exact trodAll_cons_mk (shut_bool ht _) trodAll_mk0
 ·rw[hfn]
  exact jI hl hb hp hA hlt (λx hx=>by simpa using hlt x hx)
 ·rw[hfn,hv];rfl
 exact World.keptBut_mono (λx hx=>⟨hx,Or.inr (Or.inl hx)⟩) (hb.frame (· ∈ p))
def ApF:DataW Unit->Array Value
 | .agg l=>(l.map λ| .lit (.int k n)=>.int k n|_=>undef).toArray
 | _=>#[]
def AqI (h:Array Obj) (g:Nat) (cs:Array Value):Array Obj:=h.modify g fun
 | .cells _ t frozen=>.cells cs t frozen
 | o=>o
theorem ArA {n:Int} (h:(Lit.int .i64 n).wf=true):-9223372036854775808<=n/\n<=9223372036854775807:=by
 simpa [Lit.wf,IntKind.min,IntKind.max,IntKind.bits,IntKind.signed] using h
theorem ArB {n:Int} (h:(Lit.int .u64 n).wf=true):0<=n/\n<=18446744073709551615:=by
 simpa [Lit.wf,IntKind.min,IntKind.max,IntKind.bits,IntKind.signed] using h
theorem ArC {n:Int} (h:(Lit.int .u32 n).wf=true):0<=n/\n<=4294967295:=by
 simpa [Lit.wf,IntKind.min,IntKind.max,IntKind.bits,IntKind.signed] using h
theorem ArD {n:Int} (h:(Lit.int .u16 n).wf=true):0<=n/\n<=65535:=by
 simpa [Lit.wf,IntKind.min,IntKind.max,IntKind.bits,IntKind.signed] using h
theorem ArJ {n:Int} (h:(Lit.int .u8 n).wf=true):0<=n/\n<=255:=by
 simpa [Lit.wf,IntKind.min,IntKind.max,IntKind.bits,IntKind.signed] using h
end Go.Proofs.YtjofpclmbjpgjaaGreat
namespace Go.Proofs.YtjofpclmbjpgjaaGreat.Ln
open Lib (hid)
open Go
def step (c:UInt8) (p:List (List UInt8) × List UInt8) (x:UInt8):List (List UInt8) × List UInt8:=if x=c then(p.1++[p.2],[]) else(p.1,p.2++[x])
def st (c:UInt8) (l:List UInt8):List (List UInt8) × List UInt8:=l.foldl (step c) ([],[])
def cut (c:UInt8) (l:List UInt8):List (List UInt8):=(st c l).1++[(st c l).2]
def text (L:List (List UInt8)):List UInt8:=(L.map (· ++ [10])).flatten
def whole (l:List UInt8):Bool:=(st 10 l).2.isEmpty
def split (l:List UInt8):List (List UInt8):=if whole l then(st 10 l).1 else cut 10 l
def okw (x:UInt8):Bool:=decide (33<=(x.toNat:Int)) && decide ((x.toNat:Int)<=126)
def ws:Bool->List UInt8->Bool
 | p,[]=>!p
 | p,x :: t=>if x=32 then(if p then false else ws true t) else(if okw x then ws false t else false)
def words (l:List UInt8):List (List UInt8):=if ws true l then cut 32 l else []
def line (L:List (List UInt8)):List UInt8:=Lib.join L [32]
def okb (x:UInt8):Bool:=decide (x=32) || okw x
theorem st_snoc (c:UInt8) (l:List UInt8) (x:UInt8):st c (l++[x])=step c (st c l) x:=by simp[st]
theorem iS (c:UInt8) (d:List (List UInt8)):∀ (l:List UInt8) (d0:List (List UInt8)) (r:List UInt8),l.foldl (step c) (d++d0,r)=(d++(l.foldl (step c) (d0,r)).1,(l.foldl (step c) (d0,r)).2)
 | [],_,_=>rfl
 | x :: t,d0,r=>by
   simp only[List.foldl_cons,step]
   by_cases h:x=c
   ·rw[ArZ h,ArZ h,List.append_assoc];exact iS c d t _ _
   rw[ArY h,ArY h];exact iS c d t _ _
theorem st_len (c:UInt8) (l:List UInt8):(st c l).1.length<=l.length:=by
 have : ∀ (l:List UInt8) (d:List (List UInt8)) (r:List UInt8),(l.foldl (step c) (d,r)).1.length<=d.length+l.length:=by
  intro l
  induction l with
  | nil=>intro d r;simp
  | cons x t ih =>
    intro d r
    simp only[List.foldl_cons,step,AsJ]
    split
    ·have:=ih (d++[r]) [];simp at this;omega
    have:=ih d (r++[x]);omega
 simpa [st] using this l [] []
theorem st_join (c:UInt8) (l:List UInt8):((st c l).1.map (· ++ [c])).flatten++(st c l).2=l:=by
 have : ∀ (l:List UInt8) (d:List (List UInt8)) (r:List UInt8),((l.foldl (step c) (d,r)).1.map (· ++ [c])).flatten++(l.foldl (step c) (d,r)).2=(d.map (· ++ [c])).flatten++r++l:=by
  intro l
  induction l with
  | nil=>intro d r;simp
  | cons x t ih =>
    intro d r
    simp only[List.foldl_cons,step]
    split
    ·rename_i h;rw[ih];simp[h]
    rw[ih];simp
 simpa [st] using this l [] []
theorem join_snoc (c:UInt8):∀ (D:List (List UInt8)) (r:List UInt8),Lib.join (D++[r]) [c]=(D.map (· ++ [c])).flatten++r
 | [],r=>by simp[Lib.join,List.intercalate]
 | x :: D,r=>by
   have ih:=join_snoc c D r
   rw[List.cons_append,Lib.join_cons]
   cases D with
   | nil=>simp[Lib.joinTail]
   | cons y D =>
     rw[List.cons_append,Lib.join_cons] at ih
     simp only[List.cons_append,Lib.joinTail,List.map_cons,List.flatten_cons,List.nil_append] at ih ⊢
     rw[ih]
     simp
theorem text_split (l:List UInt8):decide (text (split l)=l)=whole l:=by
 have hj:=st_join 10 l
 rw[split]
 by_cases h:whole l=true
 ·rw[ArZ h,h]
  rw[whole,List.isEmpty_iff] at h
  rw[h,AsM] at hj
  exact decide_eq_true hj
 rw[ArY h]
 have hf:whole l=false:=by simpa using h
 rw[hf,decide_eq_false_iff_not]
 intro e
 have:text (cut 10 l)=l++[10]:=by
  rw[cut,text,List.map_append,List.flatten_append]
  simp only[List.map_cons,List.map_nil,List.flatten_cons,List.flatten_nil,AsM]
  rw[<-List.append_assoc,hj]
 rw[this] at e
 have:=congrArg List.length e
 simp at this
theorem AiW (c:UInt8) (l:List UInt8) (d:List (List UInt8)) (r x:List UInt8) (h:x∈d):x∈(l.foldl (step c) (d,r)).1:=by
 have:=iS c d l [] r
 rw[AsM] at this
 rw[this]
 exact List.mem_append_left _ h
theorem zX:∀ (l:List UInt8) (d:List (List UInt8)) (r:List UInt8),(∀ x∈d,x≠[]) ->
 ws r.isEmpty l=(l.all okb && ((l.foldl (step 32) (d,r)).1++[(l.foldl (step 32) (d,r)).2]).all (λx=>!x.isEmpty))
 | [],d,r,h=>by
   have:d.all (λx=>!x.isEmpty)=true:=by simpa using h
   simp only[ws,List.foldl_nil,List.all_nil,Bool.true_and,List.all_append,this,List.all_cons,Bool.and_true]
 | x :: t,d,r,h=>by
   simp only[ws,List.foldl_cons,step,List.all_cons]
   by_cases hx:x=32
   ·subst hx
    rw[ArZ rfl,ArZ rfl]
    by_cases hr:r=[]
    ·subst hr
     have hm:([]:List UInt8)∈(t.foldl (step 32) (d++[[]],[])).1:=AiW _ _ _ _ _ (by simp)
     have:(((t.foldl (step 32) (d++[[]],[])).1++[(t.foldl (step 32) (d++[[]],[])).2]).all (λx=>!x.isEmpty))=false:=by
      rw[List.all_eq_false]
      exact⟨[],List.mem_append_left _ hm,by simp⟩
     rw[this]
     simp
    have h2:=zX t (d++[r]) [] (by
     intro y hy
     rcases ArW.1 hy with hy|hy
     ·exact h y hy
     simp at hy;subst hy;exact hr)
    rw[show r.isEmpty=false by simpa using hr]
    simp only[List.isEmpty_nil] at h2
    rw[ArY (by simp),h2]
    simp[okb]
   rw[ArY hx,ArY hx]
   by_cases ho:okw x=true
   ·have h2:=zX t d (r++[x]) h
    rw[show (r++[x]).isEmpty=false by simp] at h2
    rw[ArZ ho,h2]
    simp[okb,ho]
   rw[ArY ho]
   simp[okb,hx,ho]
theorem ws_eq (l:List UInt8):ws true l=(l.all okb && (cut 32 l).all (λx=>!x.isEmpty)):=zX l [] [] (by simp)
theorem line_words (l:List UInt8) (h:ws true l=true):line (words l)=l/\words l≠[]:=by
 rw[words,ArZ h,line,cut,join_snoc,st_join]
 exact⟨rfl,by simp⟩
end Go.Proofs.YtjofpclmbjpgjaaGreat.Ln
namespace Go.Proofs.YtjofpclmbjpgjaaGreat.It
open Lib (hid)
open Go
def word (k:Int):List UInt8 :=
 if k=1 then [111,118,101,114,108,97,112]
 else if k=2 then [97,112,112,114,111,97,99,104]
 else if k=3 then [115,101,116,116,108,101]
 else if k=4 then [104,111,108,100]
 else if k=5 then [115,101,99,116,105,111,110]
 else if k=6 then [112,111,105,110,116]
 else if k=7 then [106,111,105,110]
 else if k=8 then [98,117,102,102,101,114]
 else if k=9 then [115,105,103,110,97,108]
 else []
def kind (l:List UInt8):Int :=
 if l=word 1 then 1 else if l=word 2 then 2 else if l=word 3 then 3 else if l=word 4 then 4 else if l=word 5 then 5
 else if l=word 6 then 6 else if l=word 7 then 7 else if l=word 8 then 8 else if l=word 9 then 9 else 0
theorem AfF (k:Nat) (h1:1<=k) (h2:k<=9):kind (word k)=k:=by
 obtain rfl|rfl|rfl|rfl|rfl|rfl|rfl|rfl|rfl:k=1∨k=2∨k=3∨k=4∨k=5∨k=6∨k=7∨k=8∨k=9:=by omega
 all_goals decide
theorem kind_hit {l:List UInt8} {k:Nat} (h1:1<=k) (h2:k<=9) (h:word k=l):kind l=k:=by rw[<-h];exact AfF k h1 h2
theorem kind_none {l:List UInt8} (h:∀ k:Nat,1<=k->k<=9->word k≠l):kind l=0:=by
 have n1:l≠word 1:=λe=>h 1 (by omega) (by omega) e.symm
 have n2:l≠word 2:=λe=>h 2 (by omega) (by omega) e.symm
 have n3:l≠word 3:=λe=>h 3 (by omega) (by omega) e.symm
 have n4:l≠word 4:=λe=>h 4 (by omega) (by omega) e.symm
 have n5:l≠word 5:=λe=>h 5 (by omega) (by omega) e.symm
 have n6:l≠word 6:=λe=>h 6 (by omega) (by omega) e.symm
 have n7:l≠word 7:=λe=>h 7 (by omega) (by omega) e.symm
 have n8:l≠word 8:=λe=>h 8 (by omega) (by omega) e.symm
 have n9:l≠word 9:=λe=>h 9 (by omega) (by omega) e.symm
 rw[kind,ArY n1,ArY n2,ArY n3,ArY n4,ArY n5,ArY n6,ArY n7,ArY n8,ArY n9]
theorem kind_cases (l:List UInt8):(kind l=0/\∀ k:Nat,1<=k->k<=9->word k≠l)∨(1<=kind l/\kind l<=9/\word (kind l)=l):=by
 by_cases h:∀ k:Nat,1<=k->k<=9->word k≠l
 ·exact Or.inl ⟨kind_none h,h⟩
 refine Or.inr ?_
 have:∃ k:Nat,1<=k/\k<=9/\word k=l:=by
  apply Classical.byContradiction
  intro hc
  exact h λk a b e=>hc ⟨k,a,b,e⟩
 obtain⟨k,a,b,e⟩:=this
 rw[kind_hit a b e]
 exact⟨by omega,by omega,e⟩
def letter (c:UInt8):Bool:=c=97 || c=98 || c=116 || c=110 || c=114
structure Tp where
 n:List UInt8
 c:UInt8
deriving DecidableEq
def Tp.zero:Tp:=⟨[],0⟩
def tipOk (l:List UInt8):Bool:=decide (3<=l.length) && decide (l[l.length-2]?=some 46) && (l[l.length-1]?).any letter && Fig.nameB (l.take (l.length-2))
def tip (l:List UInt8):Tp:=if tipOk l then⟨l.take (l.length-2),(l[l.length-1]?).getD 0⟩ else Tp.zero
def tipT (t:Tp):List UInt8:=t.n++[46]++[t.c]
structure Itm where
 k:Int
 name:List UInt8
 n:Int
 e0:Tp
 e1:Tp
deriving DecidableEq
def Itm.zero:Itm:=⟨0,[],0,Tp.zero,Tp.zero⟩
def most (k:Int):Int:=if k=1 then 1099511627776 else if k=2 then 1099511627776 else if k=3 then 1000 else if k=4 then 1000 else 1099511627776
def least (k:Int):Int:=if k=1 then 0 else if k=2 then 0 else if k=3 then 0 else if k=4 then 0 else 1
def isNum (k:Int):Bool:=decide (1<=k/\k<=4)
def isLen (k:Int):Bool:=decide (5<=k/\k<=6)
def args (x:Itm):List (List UInt8) :=
 if isNum x.k then [Lib.decDigits x.n.toNat]
 else if isLen x.k then [x.name,Lib.decDigits x.n.toNat]
 else if x.k=7 then [tipT x.e0,tipT x.e1]
 else if x.k=8 then [tipT x.e0]
 else if x.k=9 then [x.name,tipT x.e0]
 else []
def print (x:Itm):List UInt8:=Ln.line (word x.k :: args x)
def parseK (k:Int) (t:List (List UInt8)):Option Itm :=
 if isNum k then match t with
  | [d]=>if Fig.parseB d (most k) then some ⟨k,[],Fig.parseN d (most k),Tp.zero,Tp.zero⟩ else none
  | _=>none
 else if isLen k then match t with
  | [m,d]=>if Fig.nameB m && Fig.parseB d 1099511627776 && decide (0<Fig.parseN d 1099511627776) then some ⟨k,m,Fig.parseN d 1099511627776,Tp.zero,Tp.zero⟩ else none
  | _=>none
 else if k=7 then match t with
  | [a,b]=>if tipOk a && tipOk b then some ⟨k,[],0,tip a,tip b⟩ else none
  | _=>none
 else if k=8 then match t with
  | [a]=>if tipOk a then some ⟨k,[],0,tip a,Tp.zero⟩ else none
  | _=>none
 else if k=9 then match t with
  | [m,a]=>if Fig.nameB m && tipOk a then some ⟨k,m,0,tip a,Tp.zero⟩ else none
  | _=>none
 else none
def parseW:List (List UInt8)->Option Itm
 | []=>none
 | h :: t=>parseK (kind h) t
def parse (l:List UInt8):Option Itm:=if Ln.ws true l then parseW (Ln.words l) else none
def right (x:Itm):Bool:=decide (0<=x.n) && decide (parse (print x)=some x)
def NumBack:Prop:=∀ (d:List UInt8) (m:Int),Fig.parseB d m=true->0<=Fig.parseN d m/\Lib.decDigits (Fig.parseN d m).toNat=d
theorem jJ (l:List UInt8) (h:tipOk l=true):tipT (tip l)=l:=by
 rw[tip,ArZ h,tipT]
 simp only[tipOk,AsF,decide_eq_true_eq] at h
 obtain⟨⟨⟨h3,h46⟩,_⟩,_⟩:=h
 have e1:l[l.length-2]?=some (l[l.length-2]'(by omega)):=ArN (by omega)
 have e2:l[l.length-1]?=some (l[l.length-1]'(by omega)):=ArN (by omega)
 rw[e1] at h46
 rw[e2,Option.getD_some]
 have h46':l[l.length-2]'(by omega)=46:=AsO h46
 have t1:l.take (l.length-1)=l.take (l.length-2)++[l[l.length-2]'(by omega)]:=by
  rw[show l.length-1=l.length-2+1 by omega,AsK (by omega)]
 have t2:l=l.take (l.length-1)++[l[l.length-1]'(by omega)]:=by
  conv=>lhs;rw[<-AsT (show l.length<=l.length-1+1 by omega)]
  rw[AsK (by omega)]
 rw[h46'] at t1
 show List.take (l.length-2) l++[46]++[l[l.length-1]'(by omega)]=l
 rw[<-t1,<-t2]
theorem vV (nb:NumBack) (k:Int) (t:List (List UInt8)) (x:Itm) (h:parseK k t=some x):x.k=k/\args x=t/\0<=x.n:=by
 unfold parseK at h
 split at h
 ·rename_i hk
  split at h
  ·split at h
   ·rename_i d hp
    cases h
    exact⟨rfl,by simp[args,hk,(nb d _ hp).2],(nb d _ hp).1⟩
   cases h
  cases h
 rename_i hk1
 split at h
 ·rename_i hk
  split at h
  ·split at h
   ·rename_i m d hp
    cases h
    simp only[AsF,decide_eq_true_eq] at hp
    exact⟨rfl,by simp[args,hk1,hk,(nb d _ hp.1.2).2],by show 0<=Fig.parseN _ _;omega⟩
   cases h
  cases h
 rename_i hk2
 split at h
 ·rename_i hk
  split at h
  ·split at h
   ·rename_i a b hp
    cases h
    simp only[AsF] at hp
    exact⟨rfl,by simp[args,isNum,isLen,hk,jJ _ hp.1,jJ _ hp.2],Int.le_refl 0⟩
   cases h
  cases h
 rename_i hk3
 split at h
 ·rename_i hk
  split at h
  ·split at h
   ·rename_i a hp
    cases h
    exact⟨rfl,by simp[args,isNum,isLen,hk,jJ _ hp],Int.le_refl 0⟩
   cases h
  cases h
 rename_i hk4
 split at h
 ·rename_i hk
  split at h
  ·split at h
   ·rename_i m a hp
    cases h
    simp only[AsF] at hp
    exact⟨rfl,by simp[args,isNum,isLen,hk,jJ _ hp.2],Int.le_refl 0⟩
   cases h
  cases h
 cases h
theorem lO (k:Int) (t:List (List UInt8)) (x:Itm) (h:parseK k t=some x):k≠0:=by
 rintro rfl
 simp[parseK,isNum,isLen] at h
theorem print_parse (nb:NumBack) (l:List UInt8) (x:Itm) (h:parse l=some x):print x=l/\0<=x.n:=by
 unfold parse at h
 split at h
 ·rename_i hw
  obtain⟨hl,hne⟩:=Ln.line_words l hw
  cases hW:Ln.words l with
  | nil=>exact absurd hW hne
  | cons a t =>
    rw[hW] at h hl
    have h':parseK (kind a) t=some x:=h
    obtain⟨h1,h2,h3⟩:=vV nb _ _ _ h'
    have hk:=lO _ _ _ h'
    rcases kind_cases a with ⟨h0,_⟩|⟨_,_,hwd⟩
    ·exact absurd h0 hk
    exact⟨by rw[print,h1,h2,hwd];exact hl,h3⟩
 cases h
theorem right_parse (nb:NumBack) (l:List UInt8) (x:Itm) (h:parse l=some x):right x=true:=by
 obtain⟨h1,h2⟩:=print_parse nb l x h
 rw[right,h1,h]
 simp[h2]
end Go.Proofs.YtjofpclmbjpgjaaGreat.It
namespace Go.Proofs.YtjofpclmbjpgjaaGreat.Sh
open Lib (hid)
open Go
def okL (x:List UInt8):Bool:=(It.parse x).isSome
def good (wh:Bool) (L:List (List UInt8)) (k:Nat):Bool:=(L[k]?).any okL && (wh || decide (k+1<L.length))
def bad (wh:Bool) (L:List (List UInt8)):Option Nat:=(List.range L.length).find? λk=>!good wh L k
def items (L:List (List UInt8)):List It.Itm:=L.filterMap It.parse
def parse (l:List UInt8):List It.Itm × Nat:=match bad (Ln.whole l) (Ln.split l) with
 | some k=>([],k+1)
 | none=>(items (Ln.split l),0)
def print (L:List It.Itm):List UInt8:=Ln.text (L.map It.print)
theorem bad_at {wh:Bool} {L:List (List UInt8)} {k:Nat} (hk:k<L.length) (h0:∀ j<k,good wh L j=true) (h:good wh L k=false):bad wh L=some k:=by
 rw[bad,List.find?_range_eq_some]
 refine⟨by simp[h],by simpa using hk,λj hj=>by simp[h0 j hj]⟩
theorem bad_no {wh:Bool} {L:List (List UInt8)} (h:∀ j<L.length,good wh L j=true):bad wh L=none:=by
 rw[bad,List.find?_range_eq_none]
 intro j hj
 simp[h j hj]
theorem AiX {wh:Bool} {L:List (List UInt8)} (h:bad wh L=none):∀ j<L.length,good wh L j=true:=by
 rw[bad,List.find?_range_eq_none] at h
 intro j hj
 simpa using h j hj
theorem parse_some {l:List UInt8} {k:Nat} (h:bad (Ln.whole l) (Ln.split l)=some k):parse l=([],k+1):=by rw[parse,h]
theorem parse_none {l:List UInt8} (h:bad (Ln.whole l) (Ln.split l)=none):parse l=(items (Ln.split l),0):=by rw[parse,h]
theorem good_iff {wh:Bool} {L:List (List UInt8)} {k:Nat} (hk:k<L.length):good wh L k=((It.parse L[k]).isSome && (wh || decide (k+1<L.length))):=by
 rw[good,ArN hk];rfl
theorem zY {L:List (List UInt8)} {wh:Bool} (h:∀ j<L.length,good wh L j=true) (hne:L≠[]):wh=true:=by
 have hl:0<L.length:=List.length_pos_iff.2 hne
 have:=h (L.length-1) (by omega)
 rw[good_iff (by omega),AsF] at this
 have h2:=this.2
 rw[decide_eq_false (by omega),Bool.or_false] at h2
 exact h2
theorem items_snoc {L:List (List UInt8)} {k:Nat} (hk:k<L.length) {y:It.Itm} (h:It.parse L[k]=some y):items (L.take (k+1))=items (L.take k)++[y]:=by
 rw[AsK hk,items,List.filterMap_append]
 simp[items,h]
theorem items_le (L:List (List UInt8)):(items L).length<=L.length:=List.length_filterMap_le _ _
theorem lP (nb:It.NumBack):∀ {L:List (List UInt8)},(∀ x∈L,(It.parse x).isSome=true)->(items L).map It.print=L
 | [],_=>rfl
 | x :: L,h=>by
   obtain⟨y,hy⟩:=Option.isSome_iff_exists.1 (h x (by simp))
   have ih:=lP nb (L:=L) λz hz=>h z (by simp[hz])
   rw[items] at ih
   rw[items,List.filterMap_cons,hy]
   simp only[List.map_cons]
   rw[ih,(It.print_parse nb x y hy).1]
theorem AiY {wh:Bool} {L:List (List UInt8)} (h:∀ j<L.length,good wh L j=true):∀ x∈L,(It.parse x).isSome=true:=λx hx=>by
 obtain⟨j,hj,rfl⟩:=List.getElem_of_mem hx
 have:=h j hj
 rw[good_iff hj,AsF] at this
 exact this.1
theorem print_parse (nb:It.NumBack) (l:List UInt8) (h:(parse l).2=0):print (parse l).1=l:=by
 cases hb:bad (Ln.whole l) (Ln.split l) with
 | some k=>rw[parse_some hb] at h;simp at h
 | none =>
   have hg:=AiX hb
   rw[parse_none hb,print,lP nb (AiY hg)]
   have ht:=Ln.text_split l
   suffices hw:Ln.whole l=true by rw[hw,AsC] at ht;exact ht
   by_cases hne:Ln.split l=[]
   ·cases hw:Ln.whole l with
    | true=>rfl
    | false =>
      rw[Ln.split,hw] at hne
      simp[Ln.cut] at hne
   exact zY hg hne
theorem right_parse {x:It.Itm} (h:It.right x=true):It.parse (It.print x)=some x:=by
 rw[It.right,AsF,AsC,AsC] at h
 exact h.2
theorem vW:∀ (D:List (List UInt8)) (r x:List UInt8),x∈D++[r]->x.length<=((D.map (· ++ [10])).flatten++r).length
 | [],r,x,h=>by simp at h;subst h;simp
 | d :: D,r,x,h=>by
   rcases AsN.1 (by simpa using h:x∈d :: (D++[r])) with rfl|h2
   ·simp <;> omega
   have:=vW D r x h2
   simp only[List.map_cons,List.flatten_cons,ArV] at this ⊢;omega
theorem split_le (l:List UInt8):(∀ x∈Ln.split l,x.length<=l.length)/\(Ln.split l).length<=l.length+1:=by
 have hj:=Ln.st_join 10 l
 have hl:=Ln.st_len 10 l
 have hm:=vW (Ln.st 10 l).1 (Ln.st 10 l).2
 rw[hj] at hm
 rw[Ln.split]
 split
 ·exact⟨λx hx=>hm x (by simp[hx]),by omega⟩
 exact⟨λx hx=>hm x hx,by simp[Ln.cut];omega⟩
end Go.Proofs.YtjofpclmbjpgjaaGreat.Sh
namespace Go.Proofs.YtjofpclmbjpgjaaGreat.Pl
open Lib (hid)
open Go It
abbrev Nm:=List UInt8
structure En where
 goes:Int
 at_:Int
 sig:Int
deriving DecidableEq
structure Sec where
 name:Nm
 pt:Bool
 len:Int
 e0:En
 e1:En
 e2:En
deriving DecidableEq
structure Sig where
 name:Nm
 sec:Int
 en:Int
deriving DecidableEq
structure Plan where
 ov:Int
 ap:Int
 se:Int
 ho:Int
 secs:List Sec
 sigs:List Sig
deriving DecidableEq
def Plan.zero:Plan:=⟨0,0,0,0,[],[]⟩
def stop:En:=⟨-1,0,-1⟩
def letter (pt:Bool) (e:Nat):UInt8:=if e=0 then(if pt then 116 else 97) else if e=1 then(if pt then 110 else 98) else if e=2 then(if pt then 114 else 0) else 0
def endAt (pt:Bool) (c:UInt8):Option Nat:=if letter pt 0=c then some 0 else if letter pt 1=c then some 1 else if pt=true/\letter pt 2=c then some 2 else none
def nEnds (pt:Bool):Nat:=if pt then 3 else 2
def isS (x:Itm):Bool:=isLen x.k
def isG (x:Itm):Bool:=decide (x.k=9)
def isPt (x:Itm):Bool:=decide (x.k=6)
def secs (M:List Itm):List Itm:=M.filter isS
def sigs (M:List Itm):List Itm:=M.filter isG
def nmS (M:List Itm):List Nm:=(secs M).map (·.name)
def nmG (M:List Itm):List Nm:=(sigs M).map (·.name)
def ptOf (M:List Itm) (nm:Nm):Bool:=((secs M).find? λx=>decide (x.name=nm)).any isPt
def ment (x:Itm):List Tp:=if x.k=7 then [x.e0,x.e1] else if x.k=8 then [x.e0] else []
def ments (M:List Itm):List Tp:=M.flatMap ment
def link (t:Tp) (x:Itm):Option (Option Tp) :=
 if x.k=7 then(if x.e0=t then some (some x.e1) else if x.e1=t then some (some x.e0) else none)
 else if x.k=8/\x.e0=t then some none else none
def partner (M:List Itm) (t:Tp):Option (Option Tp):=M.findSome? (link t)
def sigAt (M:List Itm) (t:Tp):Option Nm:=((sigs M).find? λx=>decide (x.e0=t)).map (·.name)
def num (M:List Itm) (k:Int):Int:=((M.find? λx=>decide (x.k=k)).map (·.n)).getD 0
def enW (r q:Nm->Int) (M:List Itm) (t:Tp):En :=
 ⟨match partner M t with|none=>-2|some none=>-1|some (some u)=>r u.n,
  match partner M t with|some (some u)=>(((endAt (ptOf M u.n) u.c).getD 0:Nat):Int)|_=>0,
  match sigAt M t with|some g=>q g|none=>-1⟩
def tip (x:Itm) (e:Nat):Tp:=⟨x.name,letter (isPt x) e⟩
def AiZ (r q:Nm->Int) (M:List Itm) (x:Itm):Sec :=
 ⟨x.name,isPt x,x.n,enW r q M (tip x 0),enW r q M (tip x 1),if isPt x then enW r q M (tip x 2) else stop⟩
def sigW (r:Nm->Int) (M:List Itm) (x:Itm):Sig:=⟨x.name,r x.e0.n,(((endAt (ptOf M x.e0.n) x.e0.c).getD 0:Nat):Int)⟩
def ins {α:Type} (key:α->Nm) (a:α):List α->List α
 | []=>[a]
 | b :: l=>if key b<key a then b :: ins key a l else a :: b :: l
def isort {α:Type} (key:α->Nm):List α->List α
 | []=>[]
 | a :: l=>ins key a (isort key l)
def rank (N:List Nm) (nm:Nm):Int:=((N.filter λa=>decide (a<nm)).length:Nat)
def pos (N:List Nm) (nm:Nm):Int:=((N.findIdx λa=>decide (a=nm)):Nat)
def fin (M:List Itm):Plan :=
 ⟨num M 1,num M 2,num M 3,num M 4,(isort Itm.name (secs M)).map (AiZ (rank (nmS M)) (rank (nmG M)) M),(isort Itm.name (sigs M)).map (sigW (rank (nmS M)) M)⟩
def tipErr (M:List Itm) (used:List Tp) (t:Tp):Int :=
 if t.n ∉ nmS M then 4 else if endAt (ptOf M t.n) t.c=none then 5 else if t∈used then 6 else 0
def joinErr (M:List Itm) (x:Itm):Int:=if tipErr M (ments M) x.e0≠0 then tipErr M (ments M) x.e0 else tipErr M (ments M++[x.e0]) x.e1
def sigErr (M:List Itm) (x:Itm):Int :=
 if x.name∈nmG M then 3 else if tipErr M [] x.e0≠0 then tipErr M [] x.e0 else if (sigAt M x.e0).isSome then 3 else if (sigs M).length=12 then 9 else 0
def lineErr (M:List Itm) (x:Itm):Int :=
 if right x=false then 2
 else if isNum x.k then(if M.any (λy=>decide (y.k=x.k)) then 3 else 0)
 else if isS x then(if x.name∈nmS M then 3 else if (secs M).length=24 then 9 else 0)
 else if x.k=7 then joinErr M x
 else if x.k=8 then tipErr M (ments M) x.e0
 else sigErr M x
def lackErr (M:List Itm) (x:Itm):Int :=
 if isS x then(if (List.range (nEnds (isPt x))).any (λe=>decide (partner M (tip x e)=none)) then 7 else 0)
 else if isG x then(if ((partner M x.e0).getD none).isSome then 0 else 8)
 else 0
def gB (f:Nat->Int) (n:Nat):Option Nat:=(List.range n).find? λi=>decide (f i≠0)
def errAt (L:List Itm) (i:Nat):Int:=lineErr (L.take i) ((L[i]?).getD Itm.zero)
def lackAt (L:List Itm) (i:Nat):Int:=lackErr L ((L[i]?).getD Itm.zero)
def build (L:List Itm):Plan × Int × Nat:=match gB (errAt L) L.length with
 | some i=>(Plan.zero,errAt L i,i+1)
 | none=>match gB (lackAt L) L.length with
   | some i=>(Plan.zero,lackAt L i,i+1)
   | none=>(fin L,0,0)
def Sec.get (s:Sec) (e:Nat):En:=if e=0 then s.e0 else if e=1 then s.e1 else s.e2
def zZ (p:Plan) (s e:Nat):Tp:=match p.secs[s]? with
 | some x=>⟨x.name,letter x.pt e⟩
 | none=>Tp.zero
def AqJ (p:Plan):List Itm:=([(1,p.ov),(2,p.ap),(3,p.se),(4,p.ho)]:List (Int × Int)).filterMap λa=>if a.2=0 then none else some ⟨a.1,[],a.2,Tp.zero,Tp.zero⟩
def ArE (x:Sec):Itm:=⟨if x.pt then 6 else 5,x.name,x.len,Tp.zero,Tp.zero⟩
def eE (p:Plan):List (Nat × Nat):=(List.range p.secs.length).flatMap λs=>(List.range (nEnds (((p.secs[s]?).map Sec.pt).getD false))).map λe=>(s,e)
def enP (p:Plan) (a:Nat × Nat):En:=((p.secs[a.1]?).map λx=>x.get a.2).getD stop
def AoU (p:Plan) (a:Nat × Nat):Option Itm :=
 if (a.1:Int)<(enP p a).goes∨(a.1:Int)=(enP p a).goes/\(a.2:Int)<(enP p a).at_ then some ⟨7,[],0,zZ p a.1 a.2,zZ p (enP p a).goes.toNat (enP p a).at_.toNat⟩ else none
def AoV (p:Plan) (a:Nat × Nat):Option Itm:=if (enP p a).goes<0 then some ⟨8,[],0,zZ p a.1 a.2,Tp.zero⟩ else none
def ArF (p:Plan) (g:Sig):Itm:=⟨9,g.name,0,zZ p g.sec.toNat g.en.toNat,Tp.zero⟩
def items (p:Plan):List Itm:=AqJ p++p.secs.map ArE++(eE p).filterMap (AoU p)++(eE p).filterMap (AoV p)++p.sigs.map (ArF p)
theorem qP (a:Nm):¬ a<a:=List.lt_irrefl a
theorem jK {a b c:Nm} (h:a<b) (h2:b<c):a<c:=List.lt_trans h h2
theorem AjA {a b:Nm} (h:¬ a<b) (h2:¬ b<a):a=b:=List.le_antisymm h2 h
theorem AjB {a b:Nm} (h:a<b):¬ b<a:=λh2=>qP a (jK h h2)
theorem AjC {a b:Nm} (h:¬ a<b) (hn:a≠b):b<a:=Classical.byContradiction λh2=>hn (AjA h h2)
section
variable {α : Type} (key : α -> Nm)
def Rise (l:List α):Prop:=l.Pairwise λa b=>key a<key b
theorem nW (a:α):∀ l,(ins key a l).Perm (a :: l)
 | []=>.refl _
 | b :: l=>by
   unfold ins
   split
   ·exact((nW a l).cons b).trans (.swap ..)
   exact .refl _
theorem cJ:∀ l,(isort key l).Perm l
 | []=>.refl _
 | a :: l=>(nW key a _).trans ((cJ l).cons a)
theorem vX (a:α):∀ l,Rise key l->(∀ b∈l,key b≠key a)->Rise key (ins key a l)
 | [],_,_=>by simp[ins,Rise]
 | b :: l,h,hn=>by
   unfold ins
   have h':=List.pairwise_cons.1 h
   split
   ·rename_i hb
    refine List.pairwise_cons.2 ⟨λc hc=>?_,vX a l h'.2 λc hc=>hn c (by simp[hc])⟩
    rcases AsN.1 ((nW key a l).mem_iff.1 hc) with rfl|hc
    ·exact hb
    exact h'.1 c hc
   rename_i hb
   have hab:=AjC hb (hn b (by simp))
   refine List.pairwise_cons.2 ⟨λc hc=>?_,h⟩
   rcases AsN.1 hc with rfl|hc
   ·exact hab
   exact jK hab (h'.1 c hc)
theorem cV:∀ l:List α,(l.map key).Nodup->Rise key (isort key l)
 | [],_=>.nil
 | a :: l,h=>by
   rw[List.map_cons,List.nodup_cons] at h
   refine vX key a _ (cV l h.2) λb hb e=>h.1 ?_
   rw[<-e]
   exact List.mem_map_of_mem ((cJ key l).mem_iff.1 hb)
theorem eX (l:List α):(isort key l).length=l.length:=(cJ key l).length_eq
theorem eY {l:List α} {a:α}:a∈isort key l ↔ a∈l:=(cJ key l).mem_iff
end
theorem cW {N M:List Nm} (h:N.Perm M) (nm:Nm):rank N nm=rank M nm:=by
 unfold rank
 rw[(h.filter _).length_eq]
theorem jL:∀ {N:List Nm} (_:Rise id N) (i:Nat) (nm:Nm),N[i]?=some nm->rank N nm=i
 | [],_,i,nm,hi=>by simp at hi
 | a :: N,h,0,nm,hi=>by
   obtain rfl:a=nm:=by simpa using hi
   have h':=(List.pairwise_cons.1 h).1
   unfold rank
   rw[List.filter_eq_nil_iff.2];rfl
   intro b hb
   rcases AsN.1 hb with rfl|hb
   ·simp
   simpa using AjB (h' b hb)
 | a :: N,h,i+1,nm,hi=>by
   have h':=List.pairwise_cons.1 h
   have hi':N[i]?=some nm:=by simpa using hi
   have ih:=jL h'.2 i nm hi'
   unfold rank at ih ⊢
   rw[List.filter_cons,ArZ (by simpa using h'.1 nm (ArX hi'))]
   simp at ih ⊢
   omega
theorem rank_lt {N:List Nm} {nm:Nm} (h:nm∈N):rank N nm<N.length:=by
 unfold rank
 have h1:=List.length_filter_le (λa=>decide (a<nm)) N
 rcases Nat.lt_or_ge (N.filter λa=>decide (a<nm)).length N.length with h2|h2
 ·omega
 have:=(List.length_filter_eq_length_iff.1 (Nat.le_antisymm h1 h2)) nm h
 exact absurd (of_decide_eq_true this) (qP nm)
theorem rank_nonneg (N:List Nm) (nm:Nm):0<=rank N nm:=by unfold rank;omega
theorem jM {α:Type} {key:α->Nm} {l:List α} (h:Rise key l):Rise id (l.map key):=by
 unfold Rise at h ⊢
 rw[List.pairwise_map];exact h
theorem mZ {α:Type} {key:α->Nm} {l:List α} (h:Rise key l) {a:α} (ha:a∈l):l[(rank (l.map key) (key a)).toNat]?=some a:=by
 obtain⟨i,hi,rfl⟩:=List.getElem_of_mem ha
 rw[jL (jM h) i _ (by rw[List.getElem?_map,ArN hi];rfl)]
 simp[hi]
theorem qQ {N:List Nm} {a b:Nm} (ha:a∈N) (hab:a<b):rank N a<rank N b:=by
 unfold rank
 have h1:(N.filter λc=>decide (c<a)).length=(N.countP λc=>decide (c<a)):=by rw[List.countP_eq_length_filter]
 have h2:(N.filter λc=>decide (c<b)).length=(N.countP λc=>decide (c<b)):=by rw[List.countP_eq_length_filter]
 rw[h1,h2]
 suffices h:N.countP (λc=>decide (c<a))<N.countP (λc=>decide (c<b)) by omega
 induction N with
 | nil=>cases ha
 | cons c N ih =>
   have mono:N.countP (λc=>decide (c<a))<=N.countP (λc=>decide (c<b)):=List.countP_mono_left λx _ hx=>by
    simp at hx ⊢;exact jK hx hab
   rw[List.countP_cons,List.countP_cons]
   by_cases hc:c=a
   ·subst hc
    rw[ArY (by simp),ArZ (by simpa using hab)];omega
   have ha':a∈N:=by rcases AsN.1 ha with rfl|h;exact absurd rfl hc;exact h
   have ih:=ih ha' (by rw[List.countP_eq_length_filter]) (by rw[List.countP_eq_length_filter])
   by_cases h1:c<a
   ·rw[ArZ (by simpa using h1),ArZ (by simpa using jK h1 hab)];omega
   rw[ArY (by simpa using h1)];omega
theorem AjD {N:List Nm} {a b:Nm} (ha:a∈N) (hb:b∈N) (h:rank N a=rank N b):a=b:=by
 refine AjA (λh1=>?_) λh1=>?_
 ·have:=qQ ha h1;omega
 have:=qQ hb h1;omega
open Go It
theorem aU {α:Type} {l:List α} {a:α}:(l++[a]).Nodup ↔ l.Nodup/\a ∉ l:=by
 rw[List.nodup_append]
 constructor
 ·intro ⟨h1,_,h3⟩
  exact⟨h1,λh=>h3 a h a (by simp) rfl⟩
 intro ⟨h1,h2⟩
 exact⟨h1,by simp,λb hb c hc e=>h2 (by simp at hc;rw[<-hc,<-e];exact hb)⟩
def tips (x:Itm):List Tp:=if x.k=7 then [x.e0,x.e1] else if x.k=8 then [x.e0] else if x.k=9 then [x.e0] else []
structure Ok (L:List Itm):Prop where
 right:∀ x∈L,It.right x=true
 nums:((L.filter λx=>isNum x.k).map (·.k)).Nodup
 names:(nmS L).Nodup
 few:(secs L).length<=24
 gnames:(nmG L).Nodup
 gends:((sigs L).map (·.e0)).Nodup
 gfew:(sigs L).length<=12
 ments:(ments L).Nodup
 told:∀ M x N,L=M++x :: N->∀ t∈tips x,t.n∈nmS M/\(endAt (ptOf M t.n) t.c).isSome=true
theorem right_kind {x:Itm} (h:It.right x=true):1<=x.k/\x.k<=9:=by
 have hp:=Sh.right_parse h
 unfold It.parse at hp
 split at hp
 ·cases hW : Ln.words (print x) with
  | nil=>rw[hW] at hp;cases hp
  | cons a t =>
    rw[hW] at hp
    have hp':parseK (kind a) t=some x:=hp
    have h1:x.k=kind a:=by
     unfold parseK at hp'
     split at hp'
     ·split at hp'
      ·split at hp'
       ·cases hp';rfl
       cases hp'
      cases hp'
     split at hp'
     ·split at hp'
      ·split at hp'
       ·cases hp';rfl
       cases hp'
      cases hp'
     split at hp'
     ·rename_i hk
      split at hp'
      ·split at hp'
       ·cases hp';rfl
       cases hp'
      cases hp'
     split at hp'
     ·split at hp'
      ·split at hp'
       ·cases hp';rfl
       cases hp'
      cases hp'
     split at hp'
     ·split at hp'
      ·split at hp'
       ·cases hp';rfl
       cases hp'
      cases hp'
     cases hp'
    have h2:=lO _ _ _ hp'
    rcases kind_cases a with ⟨h3,_⟩|⟨h3,h4,_⟩
    ·exact absurd h3 h2
    omega
 cases hp
theorem kinds {x:Itm} (h:It.right x=true):(isNum x.k=true/\isS x=false/\isG x=false/\x.k≠7/\x.k≠8)∨(isNum x.k=false/\isS x=true/\isG x=false/\x.k≠7/\x.k≠8)∨(isNum x.k=false/\isS x=false/\isG x=false/\x.k=7) ∨
 (isNum x.k=false/\isS x=false/\isG x=false/\x.k=8)∨(isNum x.k=false/\isS x=false/\isG x=true/\x.k=9):=by
 obtain⟨h1,h2⟩:=right_kind h
 unfold isS isG isNum isLen
 have:x.k=1∨x.k=2∨x.k=3∨x.k=4∨x.k=5∨x.k=6∨x.k=7∨x.k=8∨x.k=9:=by omega
 rcases this with h|h|h|h|h|h|h|h|h <;> rw[h] <;> decide
theorem tipErr_zero {M:List Itm} {used:List Tp} {t:Tp}:tipErr M used t=0 ↔ t.n∈nmS M/\(endAt (ptOf M t.n) t.c).isSome=true/\t ∉ used:=by
 unfold tipErr
 by_cases h1:t.n∈nmS M
 ·rw[ArY (λh=>h h1)]
  cases h2:endAt (ptOf M t.n) t.c with
  | none=>simp
  | some e =>
    rw[ArY (by simp)]
    by_cases h3:t∈used <;> simp[h1,h3]
 rw[ArZ h1];simp[h1]
theorem aV (M:List Itm) (x:Itm):secs (M++[x])=secs M++(if isS x then [x] else []):=by simp[secs,List.filter_append,List.filter_cons]
theorem aN (M:List Itm) (x:Itm):sigs (M++[x])=sigs M++(if isG x then [x] else []):=by simp[sigs,List.filter_append,List.filter_cons]
theorem bY (M:List Itm) (x:Itm):ments (M++[x])=ments M++ment x:=by simp[ments]
theorem cX (M:List Itm) (x:Itm):((M++[x]).filter λx=>isNum x.k)=(M.filter λx=>isNum x.k)++(if isNum x.k then [x] else []):=by simp[List.filter_append,List.filter_cons]
theorem vY {M:List Itm} {k:Int} (hk:isNum k=true):M.any (λy=>decide (y.k=k))=true ↔ k∈(M.filter λx=>isNum x.k).map (·.k):=by
 rw[List.any_eq_true,List.mem_map]
 constructor
 ·rintro⟨y,hy,e⟩
  have e:=of_decide_eq_true e
  exact⟨y,List.mem_filter.2 ⟨hy,by rw[e];exact hk⟩,e⟩
 rintro⟨y,hy,e⟩
 exact⟨y,(List.mem_filter.1 hy).1,by simpa using e⟩
theorem sigAt_none {M:List Itm} {t:Tp}:(sigAt M t).isSome=false ↔ t ∉ (sigs M).map (·.e0):=by
 unfold sigAt
 rw[Option.isSome_map,Option.isSome_eq_false_iff,Option.isNone_iff_eq_none,List.find?_eq_none]
 constructor
 ·intro h hm
  obtain⟨y,hy,e⟩:=List.mem_map.1 hm
  exact absurd e (by simpa using h y hy)
 intro h y hy
 have:y.e0≠t:=λe=>h (List.mem_map.2 ⟨y,hy,e⟩)
 simpa using this
theorem eZ {M:List Itm} {x:Itm} (h:∀ A y N,M=A++y :: N->∀ t∈tips y,t.n∈nmS A/\(endAt (ptOf A t.n) t.c).isSome=true) (hx:∀ t∈tips x,t.n∈nmS M/\(endAt (ptOf M t.n) t.c).isSome=true) :
 ∀ A y N,M++[x]=A++y :: N->∀ t∈tips y,t.n∈nmS A/\(endAt (ptOf A t.n) t.c).isSome=true:=λA y N e=>by
 rcases List.eq_nil_or_concat N with rfl|⟨N',z,rfl⟩
 ·obtain⟨h1,h2⟩:=List.append_inj' e rfl
  cases h2
  subst h1
  exact hx
 have e':M++[x]=(A++y :: N')++[z]:=by rw[e];simp
 obtain⟨h1,_⟩:=List.append_inj' e' rfl
 exact h A y N' h1
theorem Ok.snoc {M:List Itm} {x:Itm} (h:Ok M) (he:lineErr M x=0):Ok (M++[x]):=by
 unfold lineErr at he
 cases hr:It.right x with
 | false=>rw[hr,ArZ rfl] at he;cases he
 | true =>
   rw[hr,ArY (by simp)] at he
   have hR:∀ y∈M++[x],It.right y=true:=λy hy=>by
    rcases ArW.1 hy with hy|hy
    ·exact h.right y hy
    obtain rfl:y=x:=by simpa using hy
    exact hr
   rcases kinds hr with ⟨k1,k2,k3,k4,k5⟩|⟨k1,k2,k3,k4,k5⟩|⟨k1,k2,k3,k4⟩|⟨k1,k2,k3,k4⟩|⟨k1,k2,k3,k4⟩
   ·rw[ArZ k1] at he
    have hn:¬ (M.any (λy=>decide (y.k=x.k))=true):=λhc=>by rw[ArZ hc] at he;cases he
    rw[vY k1] at hn
    have k6:x.k≠9:=λe=>by simp[isG,e] at k3
    refine⟨hR,?_,?_,?_,?_,?_,?_,?_,eZ h.told ?_⟩
    ·rw[cX,ArZ k1,List.map_append];exact aU.2 ⟨h.nums,hn⟩
    ·simpa [nmS,aV,k2] using h.names
    ·simpa [aV,k2] using h.few
    ·simpa [nmG,aN,k3] using h.gnames
    ·simpa [aN,k3] using h.gends
    ·simpa [aN,k3] using h.gfew
    ·rw[bY,ment,ArY k4,ArY k5,AsM];exact h.ments
    intro t ht;rw[tips,ArY k4,ArY k5,ArY k6] at ht;cases ht
   ·rw[ArY (by simp[k1]),ArZ k2] at he
    have hn:x.name ∉ nmS M:=λhc=>by rw[ArZ hc] at he;cases he
    rw[ArY hn] at he
    have hl:(secs M).length≠24:=λhc=>by rw[ArZ hc] at he;cases he
    have:=h.few
    have k6:x.k≠9:=λe=>by simp[isG,e] at k3
    refine⟨hR,?_,?_,?_,?_,?_,?_,?_,eZ h.told ?_⟩
    ·rw[cX,ArY (by simp[k1]),AsM];exact h.nums
    ·rw[nmS,aV,ArZ k2,List.map_append];exact aU.2 ⟨h.names,hn⟩
    ·rw[aV,ArZ k2,ArV,List.length_singleton];omega
    ·simpa [nmG,aN,k3] using h.gnames
    ·simpa [aN,k3] using h.gends
    ·simpa [aN,k3] using h.gfew
    ·rw[bY,ment,ArY k4,ArY k5,AsM];exact h.ments
    intro t ht;rw[tips,ArY k4,ArY k5,ArY k6] at ht;cases ht
   ·rw[ArY (by simp[k1]),ArY (by simp[k2]),ArZ k4] at he
    unfold joinErr at he
    have h0:tipErr M (Pl.ments M) x.e0=0:=Classical.byContradiction λhc=>by rw[ArZ hc] at he;exact hc he
    rw[ArY (λhc=>hc h0)] at he
    rw[tipErr_zero] at h0 he
    refine⟨hR,?_,?_,?_,?_,?_,?_,?_,eZ h.told ?_⟩
    ·rw[cX,ArY (by simp[k1]),AsM];exact h.nums
    ·simpa [nmS,aV,k2] using h.names
    ·simpa [aV,k2] using h.few
    ·simpa [nmG,aN,k3] using h.gnames
    ·simpa [aN,k3] using h.gends
    ·simpa [aN,k3] using h.gfew
    ·rw[bY,ment,ArZ k4,show [x.e0,x.e1]=[x.e0]++[x.e1] from rfl,<-List.append_assoc]
     exact aU.2 ⟨aU.2 ⟨h.ments,h0.2.2⟩,he.2.2⟩
    intro t ht
    rw[tips,ArZ k4] at ht
    rcases AsN.1 ht with rfl|ht
    ·exact⟨h0.1,h0.2.1⟩
    obtain rfl:t=x.e1:=by simpa using ht
    exact⟨he.1,he.2.1⟩
   ·have k7:x.k≠7:=by omega
    rw[ArY (by simp[k1]),ArY (by simp[k2]),ArY k7,ArZ k4,tipErr_zero] at he
    refine⟨hR,?_,?_,?_,?_,?_,?_,?_,eZ h.told ?_⟩
    ·rw[cX,ArY (by simp[k1]),AsM];exact h.nums
    ·simpa [nmS,aV,k2] using h.names
    ·simpa [aV,k2] using h.few
    ·simpa [nmG,aN,k3] using h.gnames
    ·simpa [aN,k3] using h.gends
    ·simpa [aN,k3] using h.gfew
    ·rw[bY,ment,ArY k7,ArZ k4];exact aU.2 ⟨h.ments,he.2.2⟩
    intro t ht
    rw[tips,ArY k7,ArZ k4] at ht
    obtain rfl:t=x.e0:=by simpa using ht
    exact⟨he.1,he.2.1⟩
   have k7:x.k≠7:=by omega
   have k8:x.k≠8:=by omega
   rw[ArY (by simp[k1]),ArY (by simp[k2]),ArY k7,ArY k8] at he
   unfold sigErr at he
   have hn:x.name ∉ nmG M:=λhc=>by rw[ArZ hc] at he;cases he
   rw[ArY hn] at he
   have h0:tipErr M [] x.e0=0:=Classical.byContradiction λhc=>by rw[ArZ hc] at he;exact hc he
   rw[ArY (λhc=>hc h0)] at he
   rw[tipErr_zero] at h0
   have hs:(sigAt M x.e0).isSome=false:=by
    cases hc:(sigAt M x.e0).isSome with
    | false=>rfl
    | true=>rw[hc,ArZ rfl] at he;cases he
   rw[hs,ArY (by simp)] at he
   rw[sigAt_none] at hs
   have hl:(sigs M).length≠12:=λhc=>by rw[ArZ hc] at he;cases he
   have:=h.gfew
   refine⟨hR,?_,?_,?_,?_,?_,?_,?_,eZ h.told ?_⟩
   ·rw[cX,ArY (by simp[k1]),AsM];exact h.nums
   ·simpa [nmS,aV,k2] using h.names
   ·simpa [aV,k2] using h.few
   ·rw[nmG,aN,ArZ k3,List.map_append];exact aU.2 ⟨h.gnames,hn⟩
   ·rw[aN,ArZ k3,List.map_append];exact aU.2 ⟨h.gends,hs⟩
   ·rw[aN,ArZ k3,ArV,List.length_singleton];omega
   ·rw[bY,ment,ArY k7,ArY k8,AsM];exact h.ments
   intro t ht
   rw[tips,ArY k7,ArY k8,ArZ k4] at ht
   obtain rfl:t=x.e0:=by simpa using ht
   exact⟨h0.1,h0.2.1⟩
theorem Ok.init {M:List Itm} {x:Itm} (h:Ok (M++[x])):Ok M/\lineErr M x=0:=by
 have hr:It.right x=true:=h.right x (by simp)
 have hM:Ok M:=by
  refine⟨λy hy=>h.right y (by simp[hy]),?_,?_,?_,?_,?_,?_,?_,λA y N e=>?_⟩
  ·have:=h.nums;rw[cX,List.map_append] at this;exact(List.nodup_append.1 this).1
  ·have:=h.names;rw[nmS,aV,List.map_append] at this;exact(List.nodup_append.1 this).1
  ·have:=h.few;rw[aV,ArV] at this;omega
  ·have:=h.gnames;rw[nmG,aN,List.map_append] at this;exact(List.nodup_append.1 this).1
  ·have:=h.gends;rw[aN,List.map_append] at this;exact(List.nodup_append.1 this).1
  ·have:=h.gfew;rw[aN,ArV] at this;omega
  ·have:=h.ments;rw[bY] at this;exact(List.nodup_append.1 this).1
  exact h.told A y (N++[x]) (by rw[e];simp)
 refine⟨hM,?_⟩
 have told:=h.told M x [] rfl
 unfold lineErr
 rw[hr,ArY (by simp)]
 rcases kinds hr with ⟨k1,k2,k3,k4,k5⟩|⟨k1,k2,k3,k4,k5⟩|⟨k1,k2,k3,k4⟩|⟨k1,k2,k3,k4⟩|⟨k1,k2,k3,k4⟩
 ·rw[ArZ k1]
  have hn:=h.nums
  rw[cX,ArZ k1,List.map_append] at hn
  have:=(aU.1 hn).2
  rw[<-vY k1] at this
  rw[ArY this]
 ·rw[ArY (by simp[k1]),ArZ k2]
  have hn:=h.names
  rw[nmS,aV,ArZ k2,List.map_append] at hn
  have hl:=h.few
  rw[aV,ArZ k2,ArV,List.length_singleton] at hl
  rw[ArY (show x.name ∉ nmS M from(aU.1 hn).2),ArY (by omega)]
 ·rw[ArY (by simp[k1]),ArY (by simp[k2]),ArZ k4]
  have hm:=h.ments
  rw[bY,ment,ArZ k4,show [x.e0,x.e1]=[x.e0]++[x.e1] from rfl,<-List.append_assoc] at hm
  have hm2:=aU.1 hm
  rw[tips,ArZ k4] at told
  have t0:=told x.e0 (by simp)
  have t1:=told x.e1 (by simp)
  unfold joinErr
  rw[tipErr_zero.2 ⟨t0.1,t0.2,(aU.1 hm2.1).2⟩,ArY (by simp)]
  exact tipErr_zero.2 ⟨t1.1,t1.2,hm2.2⟩
 ·have k7:x.k≠7:=by omega
  rw[ArY (by simp[k1]),ArY (by simp[k2]),ArY k7,ArZ k4]
  have hm:=h.ments
  rw[bY,ment,ArY k7,ArZ k4] at hm
  rw[tips,ArY k7,ArZ k4] at told
  have t0:=told x.e0 (by simp)
  exact tipErr_zero.2 ⟨t0.1,t0.2,(aU.1 hm).2⟩
 have k7:x.k≠7:=by omega
 have k8:x.k≠8:=by omega
 rw[ArY (by simp[k1]),ArY (by simp[k2]),ArY k7,ArY k8]
 have hn:=h.gnames
 rw[nmG,aN,ArZ k3,List.map_append] at hn
 have hs:=h.gends
 rw[aN,ArZ k3,List.map_append] at hs
 have hl:=h.gfew
 rw[aN,ArZ k3,ArV,List.length_singleton] at hl
 rw[tips,ArY k7,ArY k8,ArZ k4] at told
 have t0:=told x.e0 (by simp)
 have hs':(sigAt M x.e0).isSome=false:=sigAt_none.2 (aU.1 hs).2
 unfold sigErr
 rw[ArY (show x.name ∉ nmG M from(aU.1 hn).2),tipErr_zero.2 ⟨t0.1,t0.2,by simp⟩,ArY (by simp),hs',ArY (by simp),ArY (by omega)]
theorem Ok.nil:Ok []:=by
 refine⟨by simp,by simp,by simp[nmS,secs],by simp[secs],by simp[nmG,sigs],by simp[sigs],by simp[sigs],by simp[Pl.ments],λA y N e=>by simp at e⟩
theorem firstE_none {f:Nat->Int} {n:Nat}:gB f n=none ↔ ∀ i<n,f i=0:=by
 unfold gB
 rw[List.find?_range_eq_none]
 simp
theorem firstE_some {f:Nat->Int} {n i:Nat}:gB f n=some i ↔ i<n/\f i≠0/\∀ j<i,f j=0:=by
 unfold gB
 rw[List.find?_range_eq_some]
 constructor
 ·rintro⟨h1,h2,h3⟩
  exact⟨by simpa using h2,by simpa using h1,λj hj=>by simpa using h3 j hj⟩
 rintro⟨h1,h2,h3⟩
 exact⟨by simpa using h2,by simpa using h1,λj hj=>by simpa using h3 j hj⟩
theorem iT {M N:List Itm} {i:Nat} (h:i<M.length):errAt (M++N) i=errAt M i:=by
 unfold errAt
 rw[List.getElem?_append_left h,List.take_append_of_le_length (by omega)]
theorem nX (M:List Itm) (x:Itm):errAt (M++[x]) M.length=lineErr M x:=by
 unfold errAt
 rw[List.getElem?_append_right (ArR _),Nat.sub_self,List.take_append_of_le_length (ArR _),List.take_length]
 rfl
theorem ok_iff (L:List Itm):(∀ i<L.length,errAt L i=0) ↔ Ok L:=by
 have : ∀ n,∀ L:List Itm,L.length=n->((∀ i<L.length,errAt L i=0) ↔ Ok L):=by
  intro n
  induction n with
  | zero=>intro L hL;obtain rfl:=AsR hL;exact⟨λ_=>Ok.nil,λ_ i hi=>absurd hi (by simp)⟩
  | succ n ih =>
    intro L hL
    rcases List.eq_nil_or_concat L with rfl|⟨M,x,rfl⟩
    ·cases hL
    rw[List.concat_eq_append] at hL ⊢
    have hM:M.length=n:=by simpa using hL
    constructor
    ·intro h
     have h1:Ok M:=(ih M hM).1 λi hi=>by rw[<-iT (N:=[x]) hi];exact h i (by simp;omega)
     have h2:=h M.length (by simp)
     rw[nX] at h2
     exact h1.snoc h2
    intro h i hi
    obtain⟨h1,h2⟩:=h.init
    by_cases hi':i<M.length
    ·rw[iT hi'];exact(ih M hM).2 h1 i hi'
    obtain rfl:i=M.length:=by simp at hi;omega
    rw[nX];exact h2
 exact this _ L rfl
def Shut (L:List Itm):Prop:=∀ x∈L,lackErr L x=0
theorem build_ok {L:List Itm} (h:Ok L) (h2:Shut L):build L=(fin L,0,0):=by
 unfold build
 rw[firstE_none.2 ((ok_iff L).2 h)]
 simp only
 rw[firstE_none.2 λi hi=>by unfold lackAt;rw[ArN hi];exact h2 _ (List.getElem_mem hi)]
theorem build_zero {L:List Itm} (h:(build L).2.1=0):Ok L/\Shut L/\build L=(fin L,0,0):=by
 unfold build at h
 cases h1:gB (errAt L) L.length with
 | some i =>
   rw[h1] at h
   exact absurd h (firstE_some.1 h1).2.1
 | none =>
   rw[h1] at h
   simp only at h
   have hok:=(ok_iff L).1 (firstE_none.1 h1)
   cases h2:gB (lackAt L) L.length with
   | some i=>rw[h2] at h;exact absurd h (firstE_some.1 h2).2.1
   | none =>
     have hs:Shut L:=λx hx=>by
      obtain⟨i,hi,rfl⟩:=List.getElem_of_mem hx
      have:=firstE_none.1 h2 i hi
      unfold lackAt at this
      rwa [ArN hi] at this
     exact⟨hok,hs,build_ok hok hs⟩
end Go.Proofs.YtjofpclmbjpgjaaGreat.Pl
