/- Lemmas. -/
import Derived.Test.YtjofpclmbjpgjaaGreatMk04
import Derived.ChangeKeysEq
import Derived.Deep.Slices
set_option maxHeartbeats 4000000
set_option maxRecDepth 100000
namespace Go.Proofs.YtjofpclmbjpgjaaGreat
open Lib (hid)
open Go.RowKit
abbrev itZ:Obj:=.cells #[.int .i64 0,.string ⟨#[]⟩,.int .i64 0,.string ⟨#[]⟩,.int .u8 0,.string ⟨#[]⟩,.int .u8 0] 67
theorem bP (x:List UInt8) (w:World) (hs:x.length<=1000000) (k:Int) (h:It.kind x=k) :
 Calls Tryz.prog 45 #[.string (txt x)] w λe w'=>e=.returned (.int .i64 k)/\w=w':=by
 have:=AfT (txt x) w (by rw[bJ];unfold maxLen;omega)
 rwa [aT,h] at this
theorem fA (x:List UInt8) (m:Int) (w:World) (hs:x.length<=1000000) (b:Bool) (h:Fig.parseB x m=b) :
 Calls Tryz.prog 48 #[.string (txt x),.int .i64 m] w λe w'=>e=.returned (.tuple #[.int .i64 (Fig.parseN x m),.bool b])/\w=w':=by
 have:=zU (txt x) m w (by rw[bJ];unfold maxLen;omega)
 rwa [aT,h] at this
theorem nJ (x:List UInt8) (w:World) (hs:x.length<=1000000) (b:Bool) (h:Fig.nameB x=b) :
 Calls Tryz.prog 46 #[.string (txt x)] w λe w'=>e=.returned (.bool b)/\w=w':=by
 have:=qN (txt x) w (by rw[bJ];unfold maxLen;omega)
 rwa [aT,h] at this
def HasWords (s:ByteArray) (x:List UInt8) (T:List (List UInt8)) (w:World):Prop :=
 Calls Tryz.prog 44 #[.string s] (w.alloc itZ) (GivesList (x :: T) true (w.alloc itZ))
theorem wU {w:World} {bk o:Nat} {x:List UInt8} {T:List (List UInt8)} (h:Strs w (some ⟨bk,o,none⟩) (x :: T)):w.cell? ⟨bk,o,none⟩=some (.string (txt x)):=(nI h 0 (by simp)).2
theorem Below.put {B:Nat} {a w:World} {p:Addr} {u:Value} (h:Below B a w) (hp:B<=p.block:=by first|exact ArR _|(simp;done)|((try simp);omega)):Below B a (w.setCell p u):=h.setCell hp u
theorem Below.lay {B:Nat} {a w:World} {o:Obj} (h:Below B a w) (hB:B<=w.heap.size:=by first|(simp;done)|((try simp);omega)):Below B a (w.alloc o):=h.alloc hB o
def AgC (x:List UInt8) (T:List (List UInt8)) (w:World) (e:Ending) (w1:World):Prop :=
 ∃ bk o c,(x :: T).length<=c/\e=.returned (.tuple #[.slice (some ⟨bk,o,none⟩) (x :: T).length c,.bool true])/\(w1.cell? ⟨w.heap.size,0,none⟩=some (.int .i64 0)/\w1.cell? ⟨w.heap.size,1,none⟩=some (.string ⟨#[]⟩)/\w1.cell? ⟨w.heap.size,2,none⟩=some (.int .i64 0)/\w1.cell? ⟨w.heap.size,3,none⟩=some (.string ⟨#[]⟩)/\w1.cell? ⟨w.heap.size,4,none⟩=some (.int .u8 0)/\w1.cell? ⟨w.heap.size,5,none⟩=some (.string ⟨#[]⟩)/\w1.cell? ⟨w.heap.size,6,none⟩=some (.int .u8 0)) /\
   (w1.frozen? ⟨w.heap.size,0,none⟩=false/\w1.frozen? ⟨w.heap.size,1,none⟩=false/\w1.frozen? ⟨w.heap.size,2,none⟩=false/\w1.frozen? ⟨w.heap.size,3,none⟩=false/\w1.frozen? ⟨w.heap.size,4,none⟩=false/\w1.frozen? ⟨w.heap.size,5,none⟩=false/\w1.frozen? ⟨w.heap.size,6,none⟩=false)/\w.heap.size<w1.heap.size/\Hid (w1.heap[w.heap.size]?=some itZ)/\Hid (Below w.heap.size w w1) /\
   bk<w1.heap.size/\w1.cell? ⟨bk,o,none⟩=some (.string (txt x))/\w1.heap.size≠(⟨w.heap.size,0,none⟩:Addr).block/\w1.heap.size≠(⟨bk,o,none⟩:Addr).block/\Strs w1 (some ⟨bk,o,none⟩) (x :: T)
theorem HasWords.opened {s:ByteArray} {x:List UInt8} {T:List (List UInt8)} {w:World} (W:HasWords s x T w):Calls Tryz.prog 44 #[.string s] (w.alloc itZ) (AgC x T w):=W.mono λe w1 ⟨A,c,hc,he,hs,hb⟩=>by
 have r0:=(hb.block _ (show w.heap.size<(w.alloc itZ).heap.size by simp)).trans (AsW w itZ)
 obtain⟨hc7,hf7,hy⟩:=row7 r0
 obtain⟨bk,o,rfl⟩:=AgB hs
 exact⟨bk,o,c,hc,he,hc7,hf7,hy,hid r0,hid (((AtB w).alloc (ArR _) itZ).trans (hb.mono (by simp))),(nI hs 0 (by simp)).1,wU hs,World.new_ne _ _ hc7.1,World.new_ne _ _ (wU hs),hs⟩
theorem ArG (s:ByteArray) (x:List UInt8) (T:List (List UInt8)) (hTl:T.length<=1000000) (w:World) (W:HasWords s x T w) (hk:It.kind x=0) (hx:x.length<=1000000) :
 Calls Tryz.prog 20 #[.string s] w (ParseGives (It.parseK 0 T) w):=by
 have P:=hid (show It.parseK 0 T=none from rfl)
 have C:=hid W.opened
 have KC:=hid (λw=>bP x w hx 0 hk)
 clear W hk
 go_enter Tryz.func20,Tryz.ntmps20
 go_wp2_with fail
 refine C.out.mono ?_;rintro e w1 ⟨bk,o,c,hc,rfl,⟨a0,a1,a2,a3,a4,a5,a6⟩,⟨f0,f1,f2,f3,f4,f5,f6⟩,hy0,Q0,hbW,hbk,hc00,n0,n1,hs1⟩
 simp only[AsJ] at hc
 clear hs1
 go_wp2_with fail
 refine(KC.out _).mono ?_;rintro e w' ⟨rfl,rfl⟩
 go_wp2_with fail
 all_goals
  refine bodyPost_ret ?_ rfl (ParseGives.no P.out rfl ?_)
  ·simp[results,Tryz.results20,go_sem, *]
  (repeat (first|with_reducible refine Below.put ?_|with_reducible refine Below.lay ?_|with_reducible refine Below.drew ?_));exact hbW.out
theorem gG {k:Int} (hkk:k=5∨k=6∨k=9) (s:ByteArray) (x:List UInt8) (w:World) (W:HasWords s x [] w) (hk:It.kind x=k) (hx:x.length<=1000000) :
 Calls Tryz.prog 20 #[.string s] w (ParseGives (It.parseK k []) w):=by
 have P:=hid (show It.parseK k []=none from by rcases hkk with rfl|rfl|rfl <;> rfl)
 have C:=hid W.opened
 have KC:=hid (λw=>bP x w hx k hk)
 clear W hk
 rcases hkk with rfl|rfl|rfl
 all_goals
  go_enter Tryz.func20,Tryz.ntmps20
  go_wp2_with fail
  refine C.out.mono ?_;rintro e w1 ⟨bk,o,c,hc,rfl,⟨a0,a1,a2,a3,a4,a5,a6⟩,⟨f0,f1,f2,f3,f4,f5,f6⟩,hy0,Q0,hbW,hbk,hc00,n0,n1,hs1⟩
  simp only[AsJ] at hc
  clear hs1
  go_wp2_with fail
  refine(KC.out _).mono ?_;rintro e w' ⟨rfl,rfl⟩
  go_wp2_with fail
  all_goals
   refine bodyPost_ret ?_ rfl (ParseGives.no P.out rfl ?_)
   ·simp[results,Tryz.results20,go_sem, *]
   (repeat (first|with_reducible refine Below.put ?_|with_reducible refine Below.lay ?_|with_reducible refine Below.drew ?_));exact hbW.out
theorem wV {k:Int} (hk:k=5∨k=6∨k=9) {m:List UInt8} {T:List (List UInt8)} (h:Fig.nameB m=false):It.parseK k (m :: T)=none:=by
 rcases hk with rfl|rfl|rfl
 all_goals
  match T with
  | []=>rfl
  | [d]=>simp[It.parseK,It.isNum,It.isLen,h]
  | _ :: _ :: _=>rfl
theorem dL {w:World} {bk o:Nat} {x m:List UInt8} {T:List (List UInt8)} (h:Strs w (some ⟨bk,o,none⟩) (x :: m :: T)):w.cell? ⟨bk,o+1,none⟩=some (.string (txt m)):=(nI h 1 (by simp)).2
theorem oK {w:World} {bk o:Nat} {x m d:List UInt8} {T:List (List UInt8)} (h:Strs w (some ⟨bk,o,none⟩) (x :: m :: d :: T)):w.cell? ⟨bk,o+2,none⟩=some (.string (txt d)):=(nI h 2 (by simp)).2
theorem gH {k:Int} (hkk:k=5∨k=6∨k=9) (s:ByteArray) (x:List UInt8) (m:List UInt8) (T:List (List UInt8)) (hm:m.length<=1000000) (hTl:T.length<=1000000) (hn:Fig.nameB m=false) (w:World) (W:HasWords s x (m :: T) w) (hk:It.kind x=k) (hx:x.length<=1000000) :
 Calls Tryz.prog 20 #[.string s] w (ParseGives (It.parseK k (m :: T)) w):=by
 have P:=hid (wV hkk (T:=T) hn)
 have N:=hid (λw=>nJ m w hm _ hn)
 clear hn hm
 have C:=hid W.opened
 have KC:=hid (λw=>bP x w hx k hk)
 clear W hk
 rcases hkk with rfl|rfl|rfl
 all_goals
  go_enter Tryz.func20,Tryz.ntmps20
  go_wp2_with fail
  refine C.out.mono ?_;rintro e w1 ⟨bk,o,c,hc,rfl,⟨a0,a1,a2,a3,a4,a5,a6⟩,⟨f0,f1,f2,f3,f4,f5,f6⟩,hy0,Q0,hbW,hbk,hc00,n0,n1,hs1⟩
  simp only[AsJ] at hc
  have hc01:=dL hs1
  clear hs1
  go_wp2_with fail
  refine(KC.out _).mono ?_;rintro e w' ⟨rfl,rfl⟩
  go_wp2_with fail
  refine(N.out _).mono ?_;rintro e w' ⟨rfl,rfl⟩
  go_wp2_with fail
  refine bodyPost_ret ?_ rfl (ParseGives.no P.out rfl ?_)
  ·simp[results,Tryz.results20,go_sem, *]
  (repeat (first|with_reducible refine Below.put ?_|with_reducible refine Below.lay ?_|with_reducible refine Below.drew ?_));exact hbW.out
theorem wW {k:Int} (hk:k=5∨k=6∨k=9) {m:List UInt8} {T:List (List UInt8)} (h:T.length≠1):It.parseK k (m :: T)=none:=by
 rcases hk with rfl|rfl|rfl
 all_goals
  match T,h with
  | [],_=>rfl
  | [d],h=>exact absurd rfl h
  | _ :: _ :: _,_=>rfl
theorem AaQ (k:Int) (w:World) (h0:1<=k) (h9:k<=6) (lo hi:Int) (hl:It.least k=lo) (hh:It.most k=hi) :
 Calls Tryz.prog 47 #[.int .i64 k] w λe w'=>e=.returned (.tuple #[.int .i64 lo,.int .i64 hi])/\w=w':=by
 subst hl hh;exact AjU k w h0 h9
theorem iG {k:Int} (hk:It.isLen k=true) {m d:List UInt8} (_h:Fig.nameB m=true) (hp:Fig.parseB d 1099511627776=false∨decide (Fig.parseN d 1099511627776<1)=true):It.parseK k [m,d]=none:=by
 have:=(oJ hk m d _ rfl).1
 have e:(Fig.nameB m && Fig.parseB d 1099511627776 && decide (0<Fig.parseN d 1099511627776))=false:=by
  rcases hp with hp|hp
  ·rw[hp];simp
  have:=of_decide_eq_true hp
  rw[aB (by omega:¬ 0<Fig.parseN d 1099511627776)];simp
 rw[e] at this
 simpa using this
theorem oL {k:Int} (hk:It.isLen k=true) {m d:List UInt8} (h:Fig.nameB m=true) (hp:Fig.parseB d 1099511627776=true) (hl:decide (Fig.parseN d 1099511627776<1)=false):It.parseK k [m,d]=some ⟨k,m,Fig.parseN d 1099511627776,It.Tp.zero,It.Tp.zero⟩:=by
 have:=oJ hk m d _ rfl
 have e:(Fig.nameB m && Fig.parseB d 1099511627776 && decide (0<Fig.parseN d 1099511627776))=true:=by
  have:=of_decide_eq_false hl
  rw[h,hp,aC (by omega:0<Fig.parseN d 1099511627776)];rfl
 rw[e] at this
 obtain⟨z,hz⟩:=Option.isSome_iff_exists.1 this.1
 rw[hz,this.2 z hz]
theorem fM {k:Int} (hkk:k=5∨k=6∨k=9) (s:ByteArray) (x:List UInt8) (m:List UInt8) (T:List (List UInt8)) (hm:m.length<=1000000) (hTl:T.length<=1000000) (hn:Fig.nameB m=true) (h1:T.length≠1) (w:World) (W:HasWords s x (m :: T) w) (hk:It.kind x=k) (hx:x.length<=1000000) :
 Calls Tryz.prog 20 #[.string s] w (ParseGives (It.parseK k (m :: T)) w):=by
 have P:=hid (wW hkk (m:=m) h1)
 have N:=hid (λw=>nJ m w hm _ hn)
 have hl:((T.length:Int) != 1)=true:=by rw[AsV];omega
 clear hn hm h1
 have C:=hid W.opened
 have KC:=hid (λw=>bP x w hx k hk)
 clear W hk
 rcases hkk with rfl|rfl|rfl
 all_goals
  go_enter Tryz.func20,Tryz.ntmps20
  go_wp2_with fail
  refine C.out.mono ?_;rintro e w1 ⟨bk,o,c,hc,rfl,⟨a0,a1,a2,a3,a4,a5,a6⟩,⟨f0,f1,f2,f3,f4,f5,f6⟩,hy0,Q0,hbW,hbk,hc00,n0,n1,hs1⟩
  simp only[AsJ] at hc
  have hc01:=dL hs1
  clear hs1
  go_wp2_with fail
  refine(KC.out _).mono ?_;rintro e w' ⟨rfl,rfl⟩
  go_wp2_with fail
  refine(N.out _).mono ?_;rintro e w' ⟨rfl,rfl⟩
  go_wp2_with fail
  go_region
  all_goals go_wp2_with fail
  all_goals
   refine bodyPost_ret ?_ rfl (ParseGives.no P.out rfl ?_)
   ·simp[results,Tryz.results20,go_sem, *]
   (repeat (first|with_reducible refine Below.put ?_|with_reducible refine Below.lay ?_|with_reducible refine Below.drew ?_));exact hbW.out
theorem oM {k:Int} (hkk:k=5∨k=6) (s:ByteArray) (x:List UInt8) (m d:List UInt8) (hm:m.length<=1000000) (hd:d.length<=1000000) (hn:Fig.nameB m=true) (w:World) (W:HasWords s x [m,d] w) (hk:It.kind x=k) (hx:x.length<=1000000) :
 Calls Tryz.prog 20 #[.string s] w (ParseGives (It.parseK k [m,d]) w):=by
 have N:=hid (λw=>nJ m w hm _ hn)
 have MO:=hid (λw=>AaQ k w (by omega) (by omega) 1 1099511627776 (by rcases hkk with rfl|rfl <;> rfl) (by rcases hkk with rfl|rfl <;> rfl))
 cases hp:Fig.parseB d 1099511627776
 ·have P:=hid (iG (k:=k) (by rcases hkk with rfl|rfl <;> rfl) hn (Or.inl hp))
  have PC:=hid (λw=>fA d 1099511627776 w hd _ hp)
  clear hn hm hd hp
  have C:=hid W.opened
  have KC:=hid (λw=>bP x w hx k hk)
  clear W hk
  rcases hkk with rfl|rfl
  all_goals
   go_enter Tryz.func20,Tryz.ntmps20
   go_wp2_with fail
   refine C.out.mono ?_;rintro e w1 ⟨bk,o,c,hc,rfl,⟨a0,a1,a2,a3,a4,a5,a6⟩,⟨f0,f1,f2,f3,f4,f5,f6⟩,hy0,Q0,hbW,hbk,hc00,n0,n1,hs1⟩
   simp only[AsJ] at hc
   have hc01:=dL hs1
   have hc02:=oK hs1
   clear hs1
   go_wp2_with fail
   refine(KC.out _).mono ?_;rintro e w' ⟨rfl,rfl⟩
   go_wp2_with fail
   refine(N.out _).mono ?_;rintro e w' ⟨rfl,rfl⟩
   go_wp2_with fail
   go_region
   all_goals go_wp2_with fail
   all_goals
    refine(MO.out _).mono ?_;rintro e w' ⟨rfl,rfl⟩
    go_wp2_with fail
    refine(PC.out _).mono ?_;rintro e w' ⟨rfl,rfl⟩
    go_wp2_with fail
    refine bodyPost_ret ?_ rfl (ParseGives.no P.out rfl ?_)
    ·simp[results,Tryz.results20,go_sem, *]
    (repeat (first|with_reducible refine Below.put ?_|with_reducible refine Below.lay ?_|with_reducible refine Below.drew ?_));exact hbW.out
 have PC:=hid (λw=>fA d 1099511627776 w hd _ hp)
 cases hl:decide (Fig.parseN d 1099511627776<1)
 ·have P:=hid (oL (k:=k) (by rcases hkk with rfl|rfl <;> rfl) hn hp hl)
  clear hn hm hd hp
  have C:=hid W.opened
  have KC:=hid (λw=>bP x w hx k hk)
  clear W hk
  rcases hkk with rfl|rfl
  all_goals
   go_enter Tryz.func20,Tryz.ntmps20
   go_wp2_with fail
   refine C.out.mono ?_;rintro e w1 ⟨bk,o,c,hc,rfl,⟨a0,a1,a2,a3,a4,a5,a6⟩,⟨f0,f1,f2,f3,f4,f5,f6⟩,hy0,Q0,hbW,hbk,hc00,n0,n1,hs1⟩
   simp only[AsJ] at hc
   have hc01:=dL hs1
   have hc02:=oK hs1
   clear hs1
   go_wp2_with fail
   refine(KC.out _).mono ?_;rintro e w' ⟨rfl,rfl⟩
   go_wp2_with fail
   refine(N.out _).mono ?_;rintro e w' ⟨rfl,rfl⟩
   go_wp2_with fail
   go_region
   all_goals go_wp2_with fail
   all_goals
    refine(MO.out _).mono ?_;rintro e w' ⟨rfl,rfl⟩
    go_wp2_with fail
    refine(PC.out _).mono ?_;rintro e w' ⟨rfl,rfl⟩
    go_wp2_with fail
    refine bodyPost_ret ?_ rfl (ParseGives.yes P.out rfl ?_)
    ·simp[results,Tryz.results20,go_sem, *] <;> (repeat' (first|exact rfl|apply AsG))
    (repeat (first|with_reducible refine Below.put ?_|with_reducible refine Below.lay ?_|with_reducible refine Below.drew ?_));exact hbW.out
 have P:=hid (iG (k:=k) (by rcases hkk with rfl|rfl <;> rfl) hn (Or.inr hl))
 clear hn hm hd hp
 have C:=hid W.opened
 have KC:=hid (λw=>bP x w hx k hk)
 clear W hk
 rcases hkk with rfl|rfl
 all_goals
  go_enter Tryz.func20,Tryz.ntmps20
  go_wp2_with fail
  refine C.out.mono ?_;rintro e w1 ⟨bk,o,c,hc,rfl,⟨a0,a1,a2,a3,a4,a5,a6⟩,⟨f0,f1,f2,f3,f4,f5,f6⟩,hy0,Q0,hbW,hbk,hc00,n0,n1,hs1⟩
  simp only[AsJ] at hc
  have hc01:=dL hs1
  have hc02:=oK hs1
  clear hs1
  go_wp2_with fail
  refine(KC.out _).mono ?_;rintro e w' ⟨rfl,rfl⟩
  go_wp2_with fail
  refine(N.out _).mono ?_;rintro e w' ⟨rfl,rfl⟩
  go_wp2_with fail
  go_region
  all_goals go_wp2_with fail
  all_goals
   refine(MO.out _).mono ?_;rintro e w' ⟨rfl,rfl⟩
   go_wp2_with fail
   refine(PC.out _).mono ?_;rintro e w' ⟨rfl,rfl⟩
   go_wp2_with fail
   refine bodyPost_ret ?_ rfl (ParseGives.no P.out rfl ?_)
   ·simp[results,Tryz.results20,go_sem, *]
   (repeat (first|with_reducible refine Below.put ?_|with_reducible refine Below.lay ?_|with_reducible refine Below.drew ?_));exact hbW.out
theorem rH (l:List UInt8) (m:Int):0<=Fig.parseN l m:=by
 unfold Fig.parseN
 split
 ·rename_i h
  simp only[Fig.parseB,Fig.form,AsF] at h
  exact(Fig.val_bd l h.1.2).1
 exact Int.le_refl 0
theorem mW {k:Int} (hk:k=1∨k=2∨k=3∨k=4∨k=8) {T:List (List UInt8)} (h:T.length≠1):It.parseK k T=none:=by
 rcases hk with rfl|rfl|rfl|rfl|rfl
 all_goals
  match T,h with
  | [],_=>rfl
  | [d],h=>exact absurd rfl h
  | _ :: _ :: _,_=>rfl
theorem qH {T:List (List UInt8)} (h:T.length≠2):It.parseK 7 T=none:=by
 match T,h with
 | [],_=>rfl
 | [d],_=>rfl
 | [_,_],h=>exact absurd rfl h
 | _ :: _ :: _ :: _,_=>rfl
theorem gI {k:Int} (hk:It.isNum k=true) {d:List UInt8} {m:Int} (hm:It.most k=m) (hp:Fig.parseB d m=true):It.parseK k [d]=some ⟨k,[],Fig.parseN d m,It.Tp.zero,It.Tp.zero⟩:=by
 subst hm;simp[It.parseK,hk,hp]
theorem iH {k:Int} (hk:It.isNum k=true) {d:List UInt8} {m:Int} (hm:It.most k=m) (hp:Fig.parseB d m=false):It.parseK k [d]=none:=by
 subst hm;simp[It.parseK,hk,hp]
theorem dI {k:Int} (hkk:k=1∨k=2∨k=3∨k=4∨k=8) (s:ByteArray) (x:List UInt8) (T:List (List UInt8)) (hTl:T.length<=1000000) (h1:T.length≠1) (w:World) (W:HasWords s x T w) (hk:It.kind x=k) (hx:x.length<=1000000) :
 Calls Tryz.prog 20 #[.string s] w (ParseGives (It.parseK k T) w):=by
 have P:=hid (mW hkk h1)
 have hl:((T.length:Int) != 1)=true:=by rw[AsV];omega
 clear h1
 have C:=hid W.opened
 have KC:=hid (λw=>bP x w hx k hk)
 clear W hk
 rcases hkk with rfl|rfl|rfl|rfl|rfl
 all_goals
  go_enter Tryz.func20,Tryz.ntmps20
  go_wp2_with fail
  refine C.out.mono ?_;rintro e w1 ⟨bk,o,c,hc,rfl,⟨a0,a1,a2,a3,a4,a5,a6⟩,⟨f0,f1,f2,f3,f4,f5,f6⟩,hy0,Q0,hbW,hbk,hc00,n0,n1,hs1⟩
  simp only[AsJ] at hc
  clear hs1
  go_wp2_with fail
  refine(KC.out _).mono ?_;rintro e w' ⟨rfl,rfl⟩
  go_wp2_with fail
  all_goals
   refine bodyPost_ret ?_ rfl (ParseGives.no P.out rfl ?_)
   ·simp[results,Tryz.results20,go_sem, *]
   (repeat (first|with_reducible refine Below.put ?_|with_reducible refine Below.lay ?_|with_reducible refine Below.drew ?_));exact hbW.out
theorem AgD (s:ByteArray) (x:List UInt8) (T:List (List UInt8)) (hTl:T.length<=1000000) (h1:T.length≠2) (w:World) (W:HasWords s x T w) (hk:It.kind x=7) (hx:x.length<=1000000) :
 Calls Tryz.prog 20 #[.string s] w (ParseGives (It.parseK 7 T) w):=by
 have P:=hid (qH h1)
 have hl:((T.length:Int) != 2)=true:=by rw[AsV];omega
 clear h1
 have C:=hid W.opened
 have KC:=hid (λw=>bP x w hx 7 hk)
 clear W hk
 go_enter Tryz.func20,Tryz.ntmps20
 go_wp2_with fail
 refine C.out.mono ?_;rintro e w1 ⟨bk,o,c,hc,rfl,⟨a0,a1,a2,a3,a4,a5,a6⟩,⟨f0,f1,f2,f3,f4,f5,f6⟩,hy0,Q0,hbW,hbk,hc00,n0,n1,hs1⟩
 simp only[AsJ] at hc
 clear hs1
 go_wp2_with fail
 refine(KC.out _).mono ?_;rintro e w' ⟨rfl,rfl⟩
 go_wp2_with fail
 all_goals
  refine bodyPost_ret ?_ rfl (ParseGives.no P.out rfl ?_)
  ·simp[results,Tryz.results20,go_sem, *]
  (repeat (first|with_reducible refine Below.put ?_|with_reducible refine Below.lay ?_|with_reducible refine Below.drew ?_));exact hbW.out
theorem oN {k:Int} (hkk:k=1∨k=2) (s:ByteArray) (x:List UInt8) (d:List UInt8) (hd:d.length<=1000000) (w:World) (W:HasWords s x [d] w) (hk:It.kind x=k) (hx:x.length<=1000000) :
 Calls Tryz.prog 20 #[.string s] w (ParseGives (It.parseK k [d]) w):=by
 have MO:=hid (λw=>AaQ k w (by omega) (by omega) 0 1099511627776 (by rcases hkk with rfl|rfl <;> rfl) (by rcases hkk with rfl|rfl <;> rfl))
 have hl:decide (Fig.parseN d 1099511627776<0)=false:=aB (by have:=rH d 1099511627776;omega)
 cases hp:Fig.parseB d 1099511627776
 ·have P:=hid (iH (k:=k) (by rcases hkk with rfl|rfl <;> rfl) (by rcases hkk with rfl|rfl <;> rfl) hp)
  have PC:=hid (λw=>fA d 1099511627776 w hd _ hp)
  clear hd hp
  have C:=hid W.opened
  have KC:=hid (λw=>bP x w hx k hk)
  clear W hk
  rcases hkk with rfl|rfl
  all_goals
   go_enter Tryz.func20,Tryz.ntmps20
   go_wp2_with fail
   refine C.out.mono ?_;rintro e w1 ⟨bk,o,c,hc,rfl,⟨a0,a1,a2,a3,a4,a5,a6⟩,⟨f0,f1,f2,f3,f4,f5,f6⟩,hy0,Q0,hbW,hbk,hc00,n0,n1,hs1⟩
   simp only[AsJ] at hc
   have hc01:=dL hs1
   clear hs1
   go_wp2_with fail
   refine(KC.out _).mono ?_;rintro e w' ⟨rfl,rfl⟩
   go_wp2_with fail
   refine(MO.out _).mono ?_;rintro e w' ⟨rfl,rfl⟩
   go_wp2_with fail
   refine(PC.out _).mono ?_;rintro e w' ⟨rfl,rfl⟩
   go_wp2_with fail
   refine bodyPost_ret ?_ rfl (ParseGives.no P.out rfl ?_)
   ·simp[results,Tryz.results20,go_sem, *]
   (repeat (first|with_reducible refine Below.put ?_|with_reducible refine Below.lay ?_|with_reducible refine Below.drew ?_));exact hbW.out
 have PC:=hid (λw=>fA d 1099511627776 w hd _ hp)
 have P:=hid (gI (k:=k) (by rcases hkk with rfl|rfl <;> rfl) (by rcases hkk with rfl|rfl <;> rfl) hp)
 clear hd hp
 have C:=hid W.opened
 have KC:=hid (λw=>bP x w hx k hk)
 clear W hk
 rcases hkk with rfl|rfl
 all_goals
  go_enter Tryz.func20,Tryz.ntmps20
  go_wp2_with fail
  refine C.out.mono ?_;rintro e w1 ⟨bk,o,c,hc,rfl,⟨a0,a1,a2,a3,a4,a5,a6⟩,⟨f0,f1,f2,f3,f4,f5,f6⟩,hy0,Q0,hbW,hbk,hc00,n0,n1,hs1⟩
  simp only[AsJ] at hc
  have hc01:=dL hs1
  clear hs1
  go_wp2_with fail
  refine(KC.out _).mono ?_;rintro e w' ⟨rfl,rfl⟩
  go_wp2_with fail
  refine(MO.out _).mono ?_;rintro e w' ⟨rfl,rfl⟩
  go_wp2_with fail
  refine(PC.out _).mono ?_;rintro e w' ⟨rfl,rfl⟩
  go_wp2_with fail
  refine bodyPost_ret ?_ rfl (ParseGives.yes P.out rfl ?_)
  ·simp[results,Tryz.results20,go_sem, *] <;> (repeat' (first|exact rfl|apply AsG))
  (repeat (first|with_reducible refine Below.put ?_|with_reducible refine Below.lay ?_|with_reducible refine Below.drew ?_));exact hbW.out
theorem lT {k:Int} (hkk:k=3∨k=4) (s:ByteArray) (x:List UInt8) (d:List UInt8) (hd:d.length<=1000000) (w:World) (W:HasWords s x [d] w) (hk:It.kind x=k) (hx:x.length<=1000000) :
 Calls Tryz.prog 20 #[.string s] w (ParseGives (It.parseK k [d]) w):=by
 have MO:=hid (λw=>AaQ k w (by omega) (by omega) 0 1000 (by rcases hkk with rfl|rfl <;> rfl) (by rcases hkk with rfl|rfl <;> rfl))
 have hl:decide (Fig.parseN d 1000<0)=false:=aB (by have:=rH d 1000;omega)
 cases hp:Fig.parseB d 1000
 ·have P:=hid (iH (k:=k) (by rcases hkk with rfl|rfl <;> rfl) (by rcases hkk with rfl|rfl <;> rfl) hp)
  have PC:=hid (λw=>fA d 1000 w hd _ hp)
  clear hd hp
  have C:=hid W.opened
  have KC:=hid (λw=>bP x w hx k hk)
  clear W hk
  rcases hkk with rfl|rfl
  all_goals
   go_enter Tryz.func20,Tryz.ntmps20
   go_wp2_with fail
   refine C.out.mono ?_;rintro e w1 ⟨bk,o,c,hc,rfl,⟨a0,a1,a2,a3,a4,a5,a6⟩,⟨f0,f1,f2,f3,f4,f5,f6⟩,hy0,Q0,hbW,hbk,hc00,n0,n1,hs1⟩
   simp only[AsJ] at hc
   have hc01:=dL hs1
   clear hs1
   go_wp2_with fail
   refine(KC.out _).mono ?_;rintro e w' ⟨rfl,rfl⟩
   go_wp2_with fail
   refine(MO.out _).mono ?_;rintro e w' ⟨rfl,rfl⟩
   go_wp2_with fail
   refine(PC.out _).mono ?_;rintro e w' ⟨rfl,rfl⟩
   go_wp2_with fail
   refine bodyPost_ret ?_ rfl (ParseGives.no P.out rfl ?_)
   ·simp[results,Tryz.results20,go_sem, *]
   (repeat (first|with_reducible refine Below.put ?_|with_reducible refine Below.lay ?_|with_reducible refine Below.drew ?_));exact hbW.out
 have PC:=hid (λw=>fA d 1000 w hd _ hp)
 have P:=hid (gI (k:=k) (by rcases hkk with rfl|rfl <;> rfl) (by rcases hkk with rfl|rfl <;> rfl) hp)
 clear hd hp
 have C:=hid W.opened
 have KC:=hid (λw=>bP x w hx k hk)
 clear W hk
 rcases hkk with rfl|rfl
 all_goals
  go_enter Tryz.func20,Tryz.ntmps20
  go_wp2_with fail
  refine C.out.mono ?_;rintro e w1 ⟨bk,o,c,hc,rfl,⟨a0,a1,a2,a3,a4,a5,a6⟩,⟨f0,f1,f2,f3,f4,f5,f6⟩,hy0,Q0,hbW,hbk,hc00,n0,n1,hs1⟩
  simp only[AsJ] at hc
  have hc01:=dL hs1
  clear hs1
  go_wp2_with fail
  refine(KC.out _).mono ?_;rintro e w' ⟨rfl,rfl⟩
  go_wp2_with fail
  refine(MO.out _).mono ?_;rintro e w' ⟨rfl,rfl⟩
  go_wp2_with fail
  refine(PC.out _).mono ?_;rintro e w' ⟨rfl,rfl⟩
  go_wp2_with fail
  refine bodyPost_ret ?_ rfl (ParseGives.yes P.out rfl ?_)
  ·simp[results,Tryz.results20,go_sem, *] <;> (repeat' (first|exact rfl|apply AsG))
  (repeat (first|with_reducible refine Below.put ?_|with_reducible refine Below.lay ?_|with_reducible refine Below.drew ?_));exact hbW.out
theorem tM (x:List UInt8) (w:World) (hs:x.length<=1000000) (h:It.tipOk x=true) :
 Calls Tryz.prog 49 #[.string (txt x)] w λe w'=>e=.returned (.tuple #[.agg #[.string (txt (It.tip x).n),.int .u8 (It.tip x).c.toNat],.bool true])/\Below w.heap.size w w':=by
 have:=wM (txt x) w (by rw[bJ];unfold maxLen;omega)
 rwa [aT,h] at this
theorem tN (x:List UInt8) (w:World) (hs:x.length<=1000000) (h:It.tipOk x=false) :
 Calls Tryz.prog 49 #[.string (txt x)] w λe w'=>e=.returned (.tuple #[.agg #[.string ⟨#[]⟩,.int .u8 0],.bool false])/\Below w.heap.size w w':=by
 have:=wM (txt x) w (by rw[bJ];unfold maxLen;omega)
 rw[aT,h,oG h] at this
 exact this
def tO (T:List (List UInt8)) (k:Int) (nm:List UInt8) (w1:World) (i:Value) (wr:World):Prop :=
 ∃ (j:Nat) (e0 e1:It.Tp),j<=T.length/\i=.int .i64 j/\TipsTo T j e0 e1 /\
   wr.heap[w1.heap.size]?=some (.cells #[.int .i64 k,.string (txt nm),.int .i64 0,.string (txt e0.n),.int .u8 e0.c.toNat,.string (txt e1.n),.int .u8 e1.c.toNat] 67 (0,0))/\Below w1.heap.size w1 wr
theorem TipsTo.none {T:List (List UInt8)}:TipsTo T 0 It.Tp.zero It.Tp.zero:=⟨by simp,λh=>absurd h (by omega),λh=>absurd h (by omega),λ_=>rfl⟩
theorem tQ {a b:List UInt8} {e0 e1:It.Tp} (h:TipsTo [a,b] 2 e0 e1):It.parseK 7 [a,b]=some ⟨7,[],0,e0,e1⟩:=by
 have h1:(It.tipOk a && It.tipOk b)=true:=by simpa using h.1
 obtain rfl:=h.2.1 (by omega)
 obtain rfl:=h.2.2.1 (by omega)
 show (if (It.tipOk a && It.tipOk b)=true then _ else _)=_
 rw[ArZ h1];rfl
theorem tR {a:List UInt8} {e0 e1:It.Tp} (h:TipsTo [a] 1 e0 e1):It.parseK 8 [a]=some ⟨8,[],0,e0,e1⟩:=by
 have h1:It.tipOk a=true:=by simpa using h.1
 obtain rfl:=h.2.1 (by omega)
 obtain rfl:=h.2.2.2 (by omega)
 show (if It.tipOk a=true then _ else _)=_
 rw[ArZ h1];rfl
theorem tT {m a:List UInt8} {e0 e1:It.Tp} (hm:Fig.nameB m=true) (h:TipsTo [a] 1 e0 e1):It.parseK 9 [m,a]=some ⟨9,m,0,e0,e1⟩:=by
 have h1:It.tipOk a=true:=by simpa using h.1
 obtain rfl:=h.2.1 (by omega)
 obtain rfl:=h.2.2.2 (by omega)
 show (if (Fig.nameB m && It.tipOk a)=true then _ else _)=_
 rw[hm,h1];rfl
theorem lU {a b:List UInt8} (h:It.tipOk a=false∨It.tipOk b=false):It.parseK 7 [a,b]=none:=by
 show (if (It.tipOk a && It.tipOk b)=true then _ else _)=_
 rw[ArY (by rcases h with h|h <;> simp[h])]
theorem wX {a:List UInt8} (h:It.tipOk a=false):It.parseK 8 [a]=none:=by
 show (if It.tipOk a=true then _ else _)=_
 rw[h];rfl
theorem wY {m a:List UInt8} (h:It.tipOk a=false):It.parseK 9 [m,a]=none:=by
 show (if (Fig.nameB m && It.tipOk a)=true then _ else _)=_
 rw[h];simp
theorem lA {T:List (List UInt8)} {a:List UInt8} {e0 e1:It.Tp} (h:T[0]?=some a) (ho:It.tipOk a=true) (t:TipsTo T 0 e0 e1):TipsTo T (0+1) (It.tip a) e1:=by
 obtain⟨hl,rfl⟩:=ArM h
 exact AkB hl ho t
theorem AgE {T:List (List UInt8)} {a:List UInt8} {e0 e1:It.Tp} (h:T[1]?=some a) (ho:It.tipOk a=true) (t:TipsTo T 1 e0 e1):TipsTo T (1+1) e0 (It.tip a):=by
 obtain⟨hl,rfl⟩:=ArM h
 exact AkC hl ho t
theorem dJ {f:FuncId} {xs:Array Value} {w w1 wr:World} {v:Ending} {g g':Nat} {t t':TypeId} {x0 x1 x2 x3 x4 x5 x6 y0 y1 y2 y3 y4 y5 y6:Value} (h:Calls Tryz.prog f xs wr λe w'=>e=v/\Below wr.heap.size wr w')
 (R:wr.heap[g]?=some (.cells #[x0,x1,x2,x3,x4,x5,x6] t (0,0))) (Q:w1.heap[g']?=some (.cells #[y0,y1,y2,y3,y4,y5,y6] t' (0,0))) (hy:g'<w1.heap.size) (hb:Below w1.heap.size w1 wr) (hW:Below w.heap.size w w1) :
 Calls Tryz.prog f xs wr λe w2=>e=v/\wr.heap.size<=w2.heap.size/\(w2.cell? ⟨g,0,none⟩=some x0/\w2.cell? ⟨g,1,none⟩=some x1/\w2.cell? ⟨g,2,none⟩=some x2/\w2.cell? ⟨g,3,none⟩=some x3/\w2.cell? ⟨g,4,none⟩=some x4/\w2.cell? ⟨g,5,none⟩=some x5/\w2.cell? ⟨g,6,none⟩=some x6)/\(w2.frozen? ⟨g,0,none⟩=false/\w2.frozen? ⟨g,1,none⟩=false/\w2.frozen? ⟨g,2,none⟩=false/\w2.frozen? ⟨g,3,none⟩=false/\w2.frozen? ⟨g,4,none⟩=false/\w2.frozen? ⟨g,5,none⟩=false/\w2.frozen? ⟨g,6,none⟩=false)/\g<w2.heap.size/\(w2.cell? ⟨g',0,none⟩=some y0/\w2.cell? ⟨g',1,none⟩=some y1/\w2.cell? ⟨g',2,none⟩=some y2/\w2.cell? ⟨g',3,none⟩=some y3/\w2.cell? ⟨g',4,none⟩=some y4/\w2.cell? ⟨g',5,none⟩=some y5/\w2.cell? ⟨g',6,none⟩=some y6)/\(w2.frozen? ⟨g',0,none⟩=false/\w2.frozen? ⟨g',1,none⟩=false/\w2.frozen? ⟨g',2,none⟩=false/\w2.frozen? ⟨g',3,none⟩=false/\w2.frozen? ⟨g',4,none⟩=false/\w2.frozen? ⟨g',5,none⟩=false/\w2.frozen? ⟨g',6,none⟩=false)/\g'<w2.heap.size /\
  w2.heap.size≠(⟨g,0,none⟩:Addr).block/\w2.heap.size≠(⟨g',0,none⟩:Addr).block/\Hid (w2.heap[g]?=some (.cells #[x0,x1,x2,x3,x4,x5,x6] t (0,0)))/\Hid (Below w1.heap.size w1 w2)/\Hid (Below w.heap.size w w2):=h.mono λe w2 ⟨he,hb1⟩=>by
 have r1:=(hb1.block _ (row7 R).2.2).trans R
 have hT:=hb.trans (hb1.mono hb.size)
 have r0:=(hT.block _ hy).trans Q
 obtain⟨c,d,hy1⟩:=row7 r1
 obtain⟨c',d',hy2⟩:=row7 r0
 exact⟨he,hb1.size,c,d,hy1,c',d',hy2,World.new_ne _ _ c.1,World.new_ne _ _ c'.1,hid r1,hid hT,hid (hW.trans (hT.mono hW.size))⟩
theorem AkD (s:ByteArray) (x:List UInt8) (a b:List UInt8) (ha:a.length<=1000000) (hb:b.length<=1000000) (w:World) (W:HasWords s x [a,b] w) (hk:It.kind x=7) (hx:x.length<=1000000) :
 Calls Tryz.prog 20 #[.string s] w (ParseGives (It.parseK 7 [a,b]) w):=by
 have C:=hid W.opened
 have KC:=hid (λw=>bP x w hx 7 hk)
 clear W hk
 go_enter Tryz.func20,Tryz.ntmps20
 go_wp2_with fail
 refine C.out.mono ?_;rintro e w1 ⟨bk,o,c,hc,rfl,⟨a0,a1,a2,a3,a4,a5,a6⟩,⟨f0,f1,f2,f3,f4,f5,f6⟩,hy0,Q0,hbW,hbk,hc00,n0,n1,hs1⟩
 simp only[AsJ] at hc
 have hc01:=dL hs1
 have hc02:=oK hs1
 clear hs1
 go_wp2_with fail
 refine(KC.out _).mono ?_;rintro e w' ⟨rfl,rfl⟩
 go_wp2_with fail
 have HC0:=hid hc01
 have HC1:=hid hc02
 clear hc01 hc02 hc00 n1 a0 a1 a2 a3 a4 a5 a6 f0 f1 f2 f3 f4 f5 f6 n0
 go_loopw [13] (λi wr=>tO [a,b] 7 [] w1 i wr) (λi _=>2-(intOf i).toNat)
 case atStart =>
  refine⟨0,It.Tp.zero,It.Tp.zero,AsD _,rfl,TipsTo.none,?_,?_⟩
  ·exact AsW _ _
  exact(Below.refl _ _).alloc (ArR _) _
 case round =>
  obtain⟨j,e0,e1,hj,rfl,hto,hr1,hbel⟩:=hrel
  have hz1:=(row7 hr1).2.2
  have TO:=hid hto
  have R1:=hid hr1
  clear hto hr1
  simp only[AsJ,List.length_nil] at hj
  by_cases hlt:j<2
  ·have hj01:j=0∨j=1:=by omega
   rcases hj01 with rfl|rfl
   ·have hca:wr.cell? ⟨bk,o+1,none⟩=some (.string (txt a)):=(hbel.cell (p:=⟨bk,o+1,none⟩) hbk).trans HC0.out
    cases hok:It.tipOk a
    ·have TF:=hid (λw=>tN a w ha hok)
     have P:=hid (lU (a:=a) (b:=b) (by first|exact Or.inl hok|exact Or.inr hok))
     clear hok
     go_wp2_with fail
     refine(dJ (TF.out _) R1.out Q0.out hy0 hbel hbW.out).mono ?_;rintro e w2 ⟨rfl,hz2,⟨b0,b1,b2,b3,b4,b5,b6⟩,⟨g0,g1,g2,g3,g4,g5,g6⟩,hy1,⟨a0,a1,a2,a3,a4,a5,a6⟩,⟨f0,f1,f2,f3,f4,f5,f6⟩,hy2,n2,n3,U1,hbT,hbX⟩
     clear hca
     go_wp2_with fail
     refine bodyPost_ret ?_ rfl (ParseGives.no P.out rfl ?_)
     ·simp[results,Tryz.results20,go_sem, *]
     (repeat (first|with_reducible refine Below.put ?_|with_reducible refine Below.lay ?_|with_reducible refine Below.drew ?_));exact hbX.out
    have TT:=hid (λw=>tM a w ha hok)
    have HOK:=hid hok
    clear hok
    go_wp2_with fail
    refine(dJ (TT.out _) R1.out Q0.out hy0 hbel hbW.out).mono ?_;rintro e w2 ⟨rfl,hz2,⟨b0,b1,b2,b3,b4,b5,b6⟩,⟨g0,g1,g2,g3,g4,g5,g6⟩,hy1,⟨a0,a1,a2,a3,a4,a5,a6⟩,⟨f0,f1,f2,f3,f4,f5,f6⟩,hy2,n2,n3,U1,hbT,hbX⟩
    clear hca
    go_wp2
    go_roundw
    case rel =>
     refine⟨0+1,(It.tip a),e1,by simp,by go_num,lA rfl HOK.out TO.out,?_,?_⟩
     ·exact(gZ (by simp;omega) _).trans (AtA _ _ _ _ _ _ (AtA _ _ _ _ _ _ U1.out))
     exact((hbT.out.setCell (ArR _) _).setCell (ArR _) _).alloc (by simp;omega) _
    case measure=>simp[intOf]
   have hca:wr.cell? ⟨bk,o+2,none⟩=some (.string (txt b)):=(hbel.cell (p:=⟨bk,o+2,none⟩) hbk).trans HC1.out
   cases hok:It.tipOk b
   ·have TF:=hid (λw=>tN b w hb hok)
    have P:=hid (lU (a:=a) (b:=b) (by first|exact Or.inl hok|exact Or.inr hok))
    clear hok
    go_wp2_with fail
    refine(dJ (TF.out _) R1.out Q0.out hy0 hbel hbW.out).mono ?_;rintro e w2 ⟨rfl,hz2,⟨b0,b1,b2,b3,b4,b5,b6⟩,⟨g0,g1,g2,g3,g4,g5,g6⟩,hy1,⟨a0,a1,a2,a3,a4,a5,a6⟩,⟨f0,f1,f2,f3,f4,f5,f6⟩,hy2,n2,n3,U1,hbT,hbX⟩
    clear hca
    go_wp2_with fail
    refine bodyPost_ret ?_ rfl (ParseGives.no P.out rfl ?_)
    ·simp[results,Tryz.results20,go_sem, *]
    (repeat (first|with_reducible refine Below.put ?_|with_reducible refine Below.lay ?_|with_reducible refine Below.drew ?_));exact hbX.out
   have TT:=hid (λw=>tM b w hb hok)
   have HOK:=hid hok
   clear hok
   go_wp2_with fail
   refine(dJ (TT.out _) R1.out Q0.out hy0 hbel hbW.out).mono ?_;rintro e w2 ⟨rfl,hz2,⟨b0,b1,b2,b3,b4,b5,b6⟩,⟨g0,g1,g2,g3,g4,g5,g6⟩,hy1,⟨a0,a1,a2,a3,a4,a5,a6⟩,⟨f0,f1,f2,f3,f4,f5,f6⟩,hy2,n2,n3,U1,hbT,hbX⟩
   clear hca
   go_wp2
   go_roundw
   case rel =>
    refine⟨1+1,e0,(It.tip b),by simp,by go_num,AgE rfl HOK.out TO.out,?_,?_⟩
    ·exact(gZ (by simp;omega) _).trans (AtA _ _ _ _ _ _ (AtA _ _ _ _ _ _ U1.out))
    exact((hbT.out.setCell (ArR _) _).setCell (ArR _) _).alloc (by simp;omega) _
   case measure=>simp[intOf]
  obtain rfl:j=2:=by omega
  have P:=hid (tQ TO.out)
  obtain⟨⟨b0,b1,b2,b3,b4,b5,b6⟩,⟨g0,g1,g2,g3,g4,g5,g6⟩,hy1⟩:=row7 R1.out
  have r0:=(hbel.block _ hy0).trans Q0.out
  obtain⟨⟨a0,a1,a2,a3,a4,a5,a6⟩,⟨f0,f1,f2,f3,f4,f5,f6⟩,hy2⟩:=row7 r0
  have hbX:=hid (hbW.out.trans (hbel.mono hbW.out.size))
  clear r0
  go_wp2_with fail
  refine bodyPost_ret ?_ rfl (ParseGives.yes P.out rfl ?_)
  ·simp[results,Tryz.results20,go_sem, *] <;> (repeat' (first|exact rfl|apply AsG))
  (repeat (first|with_reducible refine Below.put ?_|with_reducible refine Below.lay ?_|with_reducible refine Below.drew ?_));exact hbX.out
theorem AkE (s:ByteArray) (x:List UInt8) (a:List UInt8) (ha:a.length<=1000000) (w:World) (W:HasWords s x [a] w) (hk:It.kind x=8) (hx:x.length<=1000000) :
 Calls Tryz.prog 20 #[.string s] w (ParseGives (It.parseK 8 [a]) w):=by
 have C:=hid W.opened
 have KC:=hid (λw=>bP x w hx 8 hk)
 clear W hk
 go_enter Tryz.func20,Tryz.ntmps20
 go_wp2_with fail
 refine C.out.mono ?_;rintro e w1 ⟨bk,o,c,hc,rfl,⟨a0,a1,a2,a3,a4,a5,a6⟩,⟨f0,f1,f2,f3,f4,f5,f6⟩,hy0,Q0,hbW,hbk,hc00,n0,n1,hs1⟩
 simp only[AsJ] at hc
 have hc01:=dL hs1
 clear hs1
 go_wp2_with fail
 refine(KC.out _).mono ?_;rintro e w' ⟨rfl,rfl⟩
 go_wp2_with fail
 have HC0:=hid hc01
 clear hc01 hc00 n1 a0 a1 a2 a3 a4 a5 a6 f0 f1 f2 f3 f4 f5 f6 n0
 go_loopw [13] (λi wr=>tO [a] 8 [] w1 i wr) (λi _=>1-(intOf i).toNat)
 case atStart =>
  refine⟨0,It.Tp.zero,It.Tp.zero,AsD _,rfl,TipsTo.none,?_,?_⟩
  ·exact AsW _ _
  exact(Below.refl _ _).alloc (ArR _) _
 case round =>
  obtain⟨j,e0,e1,hj,rfl,hto,hr1,hbel⟩:=hrel
  have hz1:=(row7 hr1).2.2
  have TO:=hid hto
  have R1:=hid hr1
  clear hto hr1
  simp only[AsJ,List.length_nil] at hj
  by_cases hlt:j<1
  ·obtain rfl:j=0:=by omega
   have hca:wr.cell? ⟨bk,o+1,none⟩=some (.string (txt a)):=(hbel.cell (p:=⟨bk,o+1,none⟩) hbk).trans HC0.out
   cases hok:It.tipOk a
   ·have TF:=hid (λw=>tN a w ha hok)
    have P:=hid (wX hok)
    clear hok
    go_wp2_with fail
    refine(dJ (TF.out _) R1.out Q0.out hy0 hbel hbW.out).mono ?_;rintro e w2 ⟨rfl,hz2,⟨b0,b1,b2,b3,b4,b5,b6⟩,⟨g0,g1,g2,g3,g4,g5,g6⟩,hy1,⟨a0,a1,a2,a3,a4,a5,a6⟩,⟨f0,f1,f2,f3,f4,f5,f6⟩,hy2,n2,n3,U1,hbT,hbX⟩
    clear hca
    go_wp2_with fail
    refine bodyPost_ret ?_ rfl (ParseGives.no P.out rfl ?_)
    ·simp[results,Tryz.results20,go_sem, *]
    (repeat (first|with_reducible refine Below.put ?_|with_reducible refine Below.lay ?_|with_reducible refine Below.drew ?_));exact hbX.out
   have TT:=hid (λw=>tM a w ha hok)
   have HOK:=hid hok
   clear hok
   go_wp2_with fail
   refine(dJ (TT.out _) R1.out Q0.out hy0 hbel hbW.out).mono ?_;rintro e w2 ⟨rfl,hz2,⟨b0,b1,b2,b3,b4,b5,b6⟩,⟨g0,g1,g2,g3,g4,g5,g6⟩,hy1,⟨a0,a1,a2,a3,a4,a5,a6⟩,⟨f0,f1,f2,f3,f4,f5,f6⟩,hy2,n2,n3,U1,hbT,hbX⟩
   clear hca
   go_wp2
   go_roundw
   case rel =>
    refine⟨0+1,(It.tip a),e1,by simp,by go_num,lA rfl HOK.out TO.out,?_,?_⟩
    ·exact(gZ (by simp;omega) _).trans (AtA _ _ _ _ _ _ (AtA _ _ _ _ _ _ U1.out))
    exact((hbT.out.setCell (ArR _) _).setCell (ArR _) _).alloc (by simp;omega) _
   case measure=>simp[intOf]
  obtain rfl:j=1:=by omega
  have P:=hid (tR TO.out)
  obtain⟨⟨b0,b1,b2,b3,b4,b5,b6⟩,⟨g0,g1,g2,g3,g4,g5,g6⟩,hy1⟩:=row7 R1.out
  have r0:=(hbel.block _ hy0).trans Q0.out
  obtain⟨⟨a0,a1,a2,a3,a4,a5,a6⟩,⟨f0,f1,f2,f3,f4,f5,f6⟩,hy2⟩:=row7 r0
  have hbX:=hid (hbW.out.trans (hbel.mono hbW.out.size))
  clear r0
  go_wp2_with fail
  refine bodyPost_ret ?_ rfl (ParseGives.yes P.out rfl ?_)
  ·simp[results,Tryz.results20,go_sem, *] <;> (repeat' (first|exact rfl|apply AsG))
  (repeat (first|with_reducible refine Below.put ?_|with_reducible refine Below.lay ?_|with_reducible refine Below.drew ?_));exact hbX.out
theorem AkF (s:ByteArray) (x:List UInt8) (m a:List UInt8) (hm:m.length<=1000000) (ha:a.length<=1000000) (hn:Fig.nameB m=true) (w:World) (W:HasWords s x [m,a] w) (hk:It.kind x=9) (hx:x.length<=1000000) :
 Calls Tryz.prog 20 #[.string s] w (ParseGives (It.parseK 9 [m,a]) w):=by
 have N:=hid (λw=>nJ m w hm _ hn)
 have HN:=hid hn
 clear hn hm
 have C:=hid W.opened
 have KC:=hid (λw=>bP x w hx 9 hk)
 clear W hk
 go_enter Tryz.func20,Tryz.ntmps20
 go_wp2_with fail
 refine C.out.mono ?_;rintro e w1 ⟨bk,o,c,hc,rfl,⟨a0,a1,a2,a3,a4,a5,a6⟩,⟨f0,f1,f2,f3,f4,f5,f6⟩,hy0,Q0,hbW,hbk,hc00,n0,n1,hs1⟩
 simp only[AsJ] at hc
 have hc01:=dL hs1
 have hc02:=oK hs1
 clear hs1
 go_wp2_with fail
 refine(KC.out _).mono ?_;rintro e w' ⟨rfl,rfl⟩
 go_wp2_with fail
 refine(N.out _).mono ?_;rintro e w' ⟨rfl,rfl⟩
 go_wp2_with fail
 go_region
 go_wp2_with fail
 have HC0:=hid hc02
 clear hc01 hc02 hc00 n1 a0 a1 a2 a3 a4 a5 a6 f0 f1 f2 f3 f4 f5 f6 n0
 go_loopw [13] (λi wr=>tO [a] 9 m w1 i wr) (λi _=>1-(intOf i).toNat)
 case atStart =>
  refine⟨0,It.Tp.zero,It.Tp.zero,AsD _,rfl,TipsTo.none,?_,?_⟩
  ·exact AsW _ _
  exact((Below.refl _ _).alloc (ArR _) _).drew
 case round =>
  obtain⟨j,e0,e1,hj,rfl,hto,hr1,hbel⟩:=hrel
  have hz1:=(row7 hr1).2.2
  have TO:=hid hto
  have R1:=hid hr1
  clear hto hr1
  simp only[AsJ,List.length_nil] at hj
  by_cases hlt:j<1
  ·obtain rfl:j=0:=by omega
   have hca:wr.cell? ⟨bk,o+2,none⟩=some (.string (txt a)):=(hbel.cell (p:=⟨bk,o+2,none⟩) hbk).trans HC0.out
   cases hok:It.tipOk a
   ·have TF:=hid (λw=>tN a w ha hok)
    have P:=hid (wY (m:=m) hok)
    clear hok
    go_wp2_with fail
    refine(dJ (TF.out _) R1.out Q0.out hy0 hbel hbW.out).mono ?_;rintro e w2 ⟨rfl,hz2,⟨b0,b1,b2,b3,b4,b5,b6⟩,⟨g0,g1,g2,g3,g4,g5,g6⟩,hy1,⟨a0,a1,a2,a3,a4,a5,a6⟩,⟨f0,f1,f2,f3,f4,f5,f6⟩,hy2,n2,n3,U1,hbT,hbX⟩
    clear hca
    go_wp2_with fail
    refine bodyPost_ret ?_ rfl (ParseGives.no P.out rfl ?_)
    ·simp[results,Tryz.results20,go_sem, *]
    (repeat (first|with_reducible refine Below.put ?_|with_reducible refine Below.lay ?_|with_reducible refine Below.drew ?_));exact hbX.out
   have TT:=hid (λw=>tM a w ha hok)
   have HOK:=hid hok
   clear hok
   go_wp2_with fail
   refine(dJ (TT.out _) R1.out Q0.out hy0 hbel hbW.out).mono ?_;rintro e w2 ⟨rfl,hz2,⟨b0,b1,b2,b3,b4,b5,b6⟩,⟨g0,g1,g2,g3,g4,g5,g6⟩,hy1,⟨a0,a1,a2,a3,a4,a5,a6⟩,⟨f0,f1,f2,f3,f4,f5,f6⟩,hy2,n2,n3,U1,hbT,hbX⟩
   clear hca
   go_wp2
   go_roundw
   case rel =>
    refine⟨0+1,(It.tip a),e1,by simp,by go_num,lA rfl HOK.out TO.out,?_,?_⟩
    ·exact(gZ (by simp;omega) _).trans (AtA _ _ _ _ _ _ (AtA _ _ _ _ _ _ U1.out))
    exact((hbT.out.setCell (ArR _) _).setCell (ArR _) _).alloc (by simp;omega) _
   case measure=>simp[intOf]
  obtain rfl:j=1:=by omega
  have P:=hid (tT HN.out TO.out)
  obtain⟨⟨b0,b1,b2,b3,b4,b5,b6⟩,⟨g0,g1,g2,g3,g4,g5,g6⟩,hy1⟩:=row7 R1.out
  have r0:=(hbel.block _ hy0).trans Q0.out
  obtain⟨⟨a0,a1,a2,a3,a4,a5,a6⟩,⟨f0,f1,f2,f3,f4,f5,f6⟩,hy2⟩:=row7 r0
  have hbX:=hid (hbW.out.trans (hbel.mono hbW.out.size))
  clear r0
  go_wp2_with fail
  refine bodyPost_ret ?_ rfl (ParseGives.yes P.out rfl ?_)
  ·simp[results,Tryz.results20,go_sem, *] <;> (repeat' (first|exact rfl|apply AsG))
  (repeat (first|with_reducible refine Below.put ?_|with_reducible refine Below.lay ?_|with_reducible refine Below.drew ?_));exact hbX.out
theorem ApM (k:Int) (s:ByteArray) (x:List UInt8) (T:List (List UInt8)) (w:World) (W:HasWords s x T w) (hk:It.kind x=k) (hx:x.length<=1000000) (hT:∀ y∈T,y.length<=1000000) (hTl:T.length<=1000000) (h0:0<=k) (h9:k<=9) :
 Calls Tryz.prog 20 #[.string s] w (ParseGives (It.parseK k T) w):=by
 obtain rfl|rfl|rfl|rfl|rfl|rfl|rfl|rfl|rfl|rfl:k=0∨k=1∨k=2∨k=3∨k=4∨k=5∨k=6∨k=7∨k=8∨k=9:=by omega
 ·exact ArG s x T hTl w W hk hx
 ·by_cases h:T.length=1
  ·obtain⟨d,rfl⟩:=List.length_eq_one_iff.1 h
   exact oN (by omega) s x d (hT d (by simp)) w W hk hx
  exact dI (by omega) s x T hTl h w W hk hx
 ·by_cases h:T.length=1
  ·obtain⟨d,rfl⟩:=List.length_eq_one_iff.1 h
   exact oN (by omega) s x d (hT d (by simp)) w W hk hx
  exact dI (by omega) s x T hTl h w W hk hx
 ·by_cases h:T.length=1
  ·obtain⟨d,rfl⟩:=List.length_eq_one_iff.1 h
   exact lT (by omega) s x d (hT d (by simp)) w W hk hx
  exact dI (by omega) s x T hTl h w W hk hx
 ·by_cases h:T.length=1
  ·obtain⟨d,rfl⟩:=List.length_eq_one_iff.1 h
   exact lT (by omega) s x d (hT d (by simp)) w W hk hx
  exact dI (by omega) s x T hTl h w W hk hx
 ·match T with
  | []=>exact gG (by omega) s x w W hk hx
  | m :: T =>
    have hm:=hT m (by simp)
    have hTl':T.length<=1000000:=by simp at hTl;omega
    cases hn:Fig.nameB m
    ·exact gH (by omega) s x m T hm hTl' hn w W hk hx
    by_cases h:T.length=1
    ·obtain⟨d,rfl⟩:=List.length_eq_one_iff.1 h
     exact oM (by omega) s x m d hm (hT d (by simp)) hn w W hk hx
    exact fM (by omega) s x m T hm hTl' hn h w W hk hx
 ·match T with
  | []=>exact gG (by omega) s x w W hk hx
  | m :: T =>
    have hm:=hT m (by simp)
    have hTl':T.length<=1000000:=by simp at hTl;omega
    cases hn:Fig.nameB m
    ·exact gH (by omega) s x m T hm hTl' hn w W hk hx
    by_cases h:T.length=1
    ·obtain⟨d,rfl⟩:=List.length_eq_one_iff.1 h
     exact oM (by omega) s x m d hm (hT d (by simp)) hn w W hk hx
    exact fM (by omega) s x m T hm hTl' hn h w W hk hx
 ·by_cases h:T.length=2
  ·obtain⟨a,b,rfl⟩:∃ a b,T=[a,b]:=by
    match T,h with
    | [a,b],_=>exact⟨a,b,rfl⟩
   exact AkD s x a b (hT a (by simp)) (hT b (by simp)) w W hk hx
  exact AgD s x T hTl h w W hk hx
 ·by_cases h:T.length=1
  ·obtain⟨a,rfl⟩:=List.length_eq_one_iff.1 h
   exact AkE s x a (hT a (by simp)) w W hk hx
  exact dI (by omega) s x T hTl h w W hk hx
 match T with
 | []=>exact gG (by omega) s x w W hk hx
 | m :: T =>
   have hm:=hT m (by simp)
   have hTl':T.length<=1000000:=by simp at hTl;omega
   cases hn:Fig.nameB m
   ·exact gH (by omega) s x m T hm hTl' hn w W hk hx
   by_cases h:T.length=1
   ·obtain⟨a,rfl⟩:=List.length_eq_one_iff.1 h
    exact AkF s x m a hm (hT a (by simp)) hn w W hk hx
   exact fM (by omega) s x m T hm hTl' hn h w W hk hx
theorem lV (s:ByteArray) (w:World) (hs:s.size<=1000000) :
 Calls Tryz.prog 20 #[.string s] w (ParseGives (It.parse s.data.toList) w):=by
 have W:=AaO s (w.alloc itZ) hs
 cases hws:Ln.ws true s.data.toList
 ·have hb0:=hid ((AtB w).alloc (ArR _) itZ)
  have R0:=hid (show (w.alloc itZ).heap[w.heap.size]?=some (.cells #[.int .i64 0,.string ⟨#[]⟩,.int .i64 0,.string ⟨#[]⟩,.int .u8 0,.string ⟨#[]⟩,.int .u8 0] 67 (0,0)) from AsW _ _)
  have P:=hid (parse_none hws)
  rw[Ln.words,hws] at W
  have C:=hid W
  clear W hws
  go_enter Tryz.func20,Tryz.ntmps20
  go_wp2_with fail
  refine C.out.mono ?_;rintro e w1 ⟨A,c,hc,rfl,hs1,hb1⟩
  have r0:=(hb1.block _ (show w.heap.size<(w.alloc itZ).heap.size by simp)).trans R0.out
  obtain⟨⟨a0,a1,a2,a3,a4,a5,a6⟩,⟨f0,f1,f2,f3,f4,f5,f6⟩,hy0⟩:=row7 r0
  have Q0:=hid r0
  have hbW:=hid (hb0.out.trans (hb1.mono (by simp)))
  clear r0 hb1
  go_wp2_with fail
  refine bodyPost_ret ?_ rfl (ParseGives.no P.out rfl ?_)
  ·simp[results,Tryz.results20,go_sem, *]
  (repeat (with_reducible refine Below.setCell ?_ (by first|exact ArR _|exact Nat.le_succ _) _));exact hbW.out
 obtain⟨hl,hne⟩:=Ln.line_words _ hws
 have hle:=wT _ hws
 obtain⟨x,T,hL⟩:∃ x T,Ln.words s.data.toList=x :: T:=by
  cases hw:Ln.words s.data.toList with
  | nil=>exact absurd hw hne
  | cons x T=>exact⟨x,T,rfl⟩
 rw[hL] at hle
 have hsz:s.data.toList.length=s.size:=by simp
 have hTl:T.length<=1000000:=by
  have:=AgA s.data.toList
  rw[hL] at this;simp at this;omega
 have hkb:=AnN x
 rw[parse_some hws hL rfl]
 rw[hL,hws] at W
 exact ApM _ s x T w W rfl (by have:=hle x (by simp);omega) (λy hy=>by have:=hle y (by simp[hy]);omega) hTl hkb.1 hkb.2
theorem rI (W:World) (d:Nat) (a b:ByteArray) (i j:Int) :
 Sem.run Tryz.prog (Op.equalIn (d+2) 64 (.agg #[.string a,.int .u8 i]) (.agg #[.string b,.int .u8 j])) W=.ok (a.toList == b.toList && i == j) W:=by
 cases h1:a.toList == b.toList <;> cases h2:i == j <;> go_simp
theorem ctip:Tryz.prog.cellsOf 64=2:=by kernel_rfl
theorem AgF (W:World) (x y z u:Value):Sem.run Tryz.prog (part 64 #[x,y,z,u] 0) W=.ok (.agg #[x,y]) W:=by
 simp[part,isAgg,run_underlying Tryz.underlying64]
theorem AgG (W:World) (x y z u:Value):Sem.run Tryz.prog (part 64 #[x,y,z,u] 2) W=.ok (.agg #[z,u]) W:=by
 simp[part,isAgg,run_underlying Tryz.underlying64]
def oO (a b a' b':ByteArray) (i j i' j':Int):Bool:=(a.toList == b.toList && i == j) && (a'.toList == b'.toList && i' == j')
theorem AaR (W:World) (d:Nat) (a b a' b':ByteArray) (i j i' j':Int) :
 Sem.run Tryz.prog (Op.equalIn (d+3) 65 (.agg #[.string a,.int .u8 i,.string a',.int .u8 i']) (.agg #[.string b,.int .u8 j,.string b',.int .u8 j'])) W=.ok (oO a b a' b' i j i' j') W:=by
 obtain⟨inf,hi⟩:=info_of_underlying (P:=Tryz.prog) Tryz.underlying64
 rw[run_equalIn_array W (d+2) _ _ Tryz.underlying65 hi,ctip]
 have T1:=rI W d a b i j
 have T2:=rI W d a' b' i' j'
 unfold oO
 generalize (a.toList == b.toList && i == j)=p at T1 ⊢
 generalize (a'.toList == b'.toList && i' == j')=q at T2 ⊢
 cases p <;> cases q <;> simp[Op.eqItems,List.range,List.range.loop,AgF,AgG,T1,T2]
def wZ (k k':Int) (nm nm':ByteArray) (n n':Int) (e:Bool):Bool:=k == k' && (nm.toList == nm'.toList && (n == n' && e))
theorem AaS (W:World) (d:Nat) (k k':Int) (nm nm':ByteArray) (n n':Int) (a b a' b':ByteArray) (i j i' j':Int) :
 Sem.run Tryz.prog (Op.equalIn (d+4) 67 (.agg #[.int .i64 k,.string nm,.int .i64 n,.string a,.int .u8 i,.string a',.int .u8 i']) (.agg #[.int .i64 k',.string nm',.int .i64 n',.string b,.int .u8 j,.string b',.int .u8 j'])) W=.ok (wZ k k' nm nm' n n' (oO a b a' b' i j i' j')) W:=by
 have E:=AaR W d a b a' b' i j i' j'
 generalize oO a b a' b' i j i' j'=p at E ⊢
 unfold wZ
 cases h1:k == k' <;> cases h2:nm.toList == nm'.toList <;> cases h3:n == n' <;> cases p <;> go_simp
theorem AnO (W:World) (k k':Int) (nm nm':ByteArray) (n n':Int) (a b a' b':ByteArray) (i j i' j':Int) :
 Sem.run Tryz.prog (Op.equalIn 10000 67 (.agg #[.int .i64 k,.string nm,.int .i64 n,.string a,.int .u8 i,.string a',.int .u8 i']) (.agg #[.int .i64 k',.string nm',.int .i64 n',.string b,.int .u8 j,.string b',.int .u8 j'])) W=.ok (wZ k k' nm nm' n n' (oO a b a' b' i j i' j')) W :=
 AaS W 9996 k k' nm nm' n n' a b a' b' i j i' j'
theorem AkG (y z:It.Itm):wZ y.k z.k (txt y.name) (txt z.name) y.n z.n (oO (txt y.e0.n) (txt z.e0.n) (txt y.e1.n) (txt z.e1.n) y.e0.c.toNat z.e0.c.toNat y.e1.c.toNat z.e1.c.toNat)=decide (y=z):=by
 rw[Bool.eq_iff_iff]
 obtain⟨k,nm,n,⟨a,ac⟩,⟨b,bc⟩⟩:=y
 obtain⟨k',nm',n',⟨a',ac'⟩,⟨b',bc'⟩⟩:=z
 have e:∀ x y:UInt8,((x.toNat:Int)=y.toNat ↔ x=y):=λx y=>⟨λh=>UInt8.toNat_inj.mp (by omega),λh=>by rw[h]⟩
 simp[wZ,oO,bK,e,and_assoc]
theorem AkH (x y:It.Itm):decide (x=y)=decide (y=x):=by
 rw[Bool.eq_iff_iff,AsC,AsC]
 exact⟨Eq.symm,Eq.symm⟩
theorem AgH (W:World) (y:It.Itm) (k:Int) (nm:ByteArray) (n:Int) (a:ByteArray) (ac:UInt8) (b:ByteArray) (bc:UInt8) :
 Sem.run Tryz.prog (binOp .eql 67 (.agg #[.int .i64 k,.string nm,.int .i64 n,.string a,.int .u8 ac.toNat,.string b,.int .u8 bc.toNat]) (.agg #[.int .i64 y.k,.string (txt y.name),.int .i64 y.n,.string (txt y.e0.n),.int .u8 y.e0.c.toNat,.string (txt y.e1.n),.int .u8 y.e1.c.toNat])) W=.ok (.bool (decide (y=ofV k nm n a ac b bc))) W:=by
 have h:=AnO W k y.k nm (txt y.name) n y.n a (txt y.e0.n) b (txt y.e1.n) ac.toNat y.e0.c.toNat bc.toNat y.e1.c.toNat
 have e:=AkG (ofV k nm n a ac b bc) y
 simp only[ofV,iR] at e
 rw[run_eql_struct,h,e,Result.andThen_ok]
 exact congrArg (λb=>Result.ok (Value.bool b) W) (AkH _ _)
theorem AkI (k:Int) (nm:ByteArray) (n:Int) (a:ByteArray) (ac:UInt8) (b:ByteArray) (bc:UInt8) (h0:0<=n) (h1:n<=9223372036854775807) (hn:nm.size<=1000) (ha:a.size<=1000) (hb:b.size<=1000):(It.print (ofV k nm n a ac b bc)).length<=1000000:=by
 have hw:=nF k
 have hd:=tK h0 h1
 by_cases e1:It.isNum k=true
 ·rw[rE e1];simp[Ln.line,Lib.join];omega
 by_cases e2:It.isLen k=true
 ·rw[rF (tL e2) e2];simp[Ln.line,Lib.join];omega
 by_cases e3:k=7
 ·subst e3;rw[AdP];simp[Ln.line,Lib.join,It.tipT];omega
 by_cases e4:k=8
 ·subst e4;rw[AdQ];simp[Ln.line,Lib.join,It.tipT];omega
 by_cases e5:k=9
 ·subst e5;rw[AdR];simp[Ln.line,Lib.join,It.tipT];omega
 rw[AoX _ _ _ _ _ _ _ (by simp[It.isNum] at e1;simp[It.isLen] at e2;omega)];simp
theorem xA (k:Int) (nm:ByteArray) (n:Int) (a:ByteArray) (ac:UInt8) (b:ByteArray) (bc:UInt8) (w:World) (h1:n<=9223372036854775807) (hn:nm.size<=1000) (ha:a.size<=1000) (hb:b.size<=1000) :
 Calls Tryz.prog 21 #[.agg #[.int .i64 k,.string nm,.int .i64 n,.string a,.int .u8 ac.toNat,.string b,.int .u8 bc.toNat]] w λe w'=>e=.returned (.bool (It.right (ofV k nm n a ac b bc)))/\Below w.heap.size w w':=by
 have hb0:=hid ((AtB w).alloc (ArR _) (.cells #[.int .i64 k,.string nm,.int .i64 n,.string a,.int .u8 ac.toNat,.string b,.int .u8 bc.toNat] 67))
 have R0:=hid (show (w.alloc (.cells #[.int .i64 k,.string nm,.int .i64 n,.string a,.int .u8 ac.toNat,.string b,.int .u8 bc.toNat] 67)).heap[w.heap.size]?=some (.cells #[.int .i64 k,.string nm,.int .i64 n,.string a,.int .u8 ac.toNat,.string b,.int .u8 bc.toNat] 67 (0,0)) from AsW _ _)
 by_cases h0:n<0
 ·have P:=hid (show It.right (ofV k nm n a ac b bc)=false by
   rw[It.right,aB (show ¬ 0<=(ofV k nm n a ac b bc).n by show ¬ 0<=n;omega)];rfl)
  have h0':decide (n<0)=true:=aC h0
  clear h1 hn ha hb h0
  go_enter Tryz.func21,Tryz.ntmps21
  go_wp2
  go_ret
  exact⟨mV P.out.symm,hb0.out⟩
 have h0':decide (n<0)=false:=aB h0
 have hle:=AkI k nm n a ac b bc (by omega) h1 hn ha hb
 have C:=hid (wQ k nm n a ac b bc (w.alloc (.cells #[.int .i64 k,.string nm,.int .i64 n,.string a,.int .u8 ac.toNat,.string b,.int .u8 bc.toNat] 67)) (by omega) h1 hn ha hb)
 have PC:=hid (λw=>lV (txt (It.print (ofV k nm n a ac b bc))) w (by rw[bJ];exact hle))
 have HN:=hid (show decide (0<=(ofV k nm n a ac b bc).n)=true from aC (show 0<=n by omega))
 clear h1 hn ha hb h0 hle
 go_enter Tryz.func21,Tryz.ntmps21
 go_wp2_with fail
 refine C.out.mono ?_;rintro e w1 ⟨rfl,hb1⟩
 have r0:=(hb1.block _ (show w.heap.size<(w.alloc (.cells #[.int .i64 k,.string nm,.int .i64 n,.string a,.int .u8 ac.toNat,.string b,.int .u8 bc.toNat] 67)).heap.size by simp)).trans R0.out
 have hy0:=(row7 r0).2.2
 have Q0:=hid r0
 have hbW:=hid (hb0.out.trans (hb1.mono (by simp)))
 clear r0 hb1
 go_wp2_with fail
 refine(PC.out _).mono ?_;rintro e w2 ⟨y,rfl,hyy,hb2⟩
 rw[aT] at hyy ⊢
 have r0:=(hb2.block _ hy0).trans Q0.out
 obtain⟨⟨a0,a1,a2,a3,a4,a5,a6⟩,⟨f0,f1,f2,f3,f4,f5,f6⟩,hy1⟩:=row7 r0
 have n0:=World.new_ne _ _ a0
 have hbX:=hid (hbW.out.trans (hb2.mono hbW.out.size))
 clear r0 hb2
 cases hpk:It.parse (It.print (ofV k nm n a ac b bc)) with
 | none =>
   have P:=hid (show It.right (ofV k nm n a ac b bc)=false by rw[It.right,HN.out,hpk];rfl)
   clear hpk hyy
   rw[Option.isSome_none]
   go_wp2
   go_ret
   exact⟨mV P.out.symm,hbX.out.alloc (by omega) _⟩
 | some z =>
   rw[hpk] at hyy
   obtain rfl:y=z:=hyy
   have P:=hid (show It.right (ofV k nm n a ac b bc)=decide (y=ofV k nm n a ac b bc) by rw[It.right,HN.out,hpk,Bool.true_and];simp)
   clear hpk
   rw[Option.isSome_some]
   have Q:=λW=>AgH W y k nm n a ac b bc
   go_wp2
   go_ret
   exact⟨mV P.out.symm,hbX.out.alloc (by omega) _⟩
theorem cQ {w w':World} {b:Nat} {r:Obj} (h:w.heap[b]?=some r) (hb:Below w.heap.size w w'):w'.heap[b]?=some r:=by
 rw[hb.block b (ArL h).1,h]
theorem row2 {w:World} {g:Nat} {a b:Value} {t:TypeId} (h:w.heap[g]?=some (.cells #[a,b] t (0,0))):(w.cell? ⟨g,0,none⟩=some a/\w.cell? ⟨g,1,none⟩=some b)/\g<w.heap.size :=
 ⟨⟨AsY w g 0 _ t _ h,AsY w g 1 _ t _ h⟩,(ArL h).1⟩
theorem xB {c:UInt8} (h:Fig.dig c=true):UInt8.ofNat (48+((c.toNat:Int)-48).toNat)=c:=by
 have:=zT h
 apply UInt8.toNat_inj.mp
 rw[UInt8.toNat_ofNat']
 omega
theorem AkJ:∀ (r:List UInt8),r≠[]->r.all Fig.dig=true->r.reverse.head? ≠ some 48->1<=Fig.val r.reverse/\Lib.decDigits (Fig.val r.reverse).toNat=r.reverse:=by
 intro r
 induction r with
 | nil=>intro h;exact absurd rfl h
 | cons c r ih =>
   intro _ hd hh
   simp only[List.all_cons,AsF] at hd
   have hb:=zT hd.1
   rw[List.reverse_cons,Fig.val_snoc]
   cases r with
   | nil =>
     have hc:c≠48:=by simpa using hh
     have hc2:c.toNat≠48:=by
      intro h;apply hc;exact UInt8.toNat_inj.mp h
     have hv:Fig.val ([]:List UInt8).reverse=0:=rfl
     rw[hv]
     refine⟨by omega,?_⟩
     rw[Lib.decDigits,dif_pos (by omega)]
     have:=xB hd.1
     simp only[List.reverse_nil,List.nil_append]
     rw[show (10*0+((c.toNat:Int)-48)).toNat=((c.toNat:Int)-48).toNat by omega,this]
   | cons x xs =>
     have h2:=ih (by simp) hd.2 (by
      intro h;apply hh
      rw[List.reverse_cons]
      cases hx:(x :: xs).reverse with
      | nil=>simp at hx
      | cons y ys=>rw[hx] at h;simpa using h)
     refine⟨by omega,?_⟩
     rw[Lib.decDigits,dif_neg (by omega)]
     rw[show (10*Fig.val (x :: xs).reverse+((c.toNat:Int)-48)).toNat / 10=(Fig.val (x :: xs).reverse).toNat by omega,h2.2]
     rw[show (10*Fig.val (x :: xs).reverse+((c.toNat:Int)-48)).toNat % 10=((c.toNat:Int)-48).toNat by omega,xB hd.1]
theorem AgI (l:List UInt8) (h:Fig.form l=true):Lib.decDigits (Fig.val l).toNat=l:=by
 simp only[Fig.form,AsF,decide_eq_true_eq,Bool.not_eq_true'] at h
 obtain⟨⟨⟨h1,_⟩,hp⟩,hd⟩:=h
 by_cases h48:l.head?=some 48
 ·have hl:¬ 1<l.length:=by
   intro hl
   rw[Fig.pad,h48,show decide (1<l.length)=true from decide_eq_true hl] at hp
   exact absurd hp (by decide)
  match l,h1,hl,h48 with
  | [c],_,_,h48 =>
    obtain rfl:c=48:=by simpa using h48
    rw[show Fig.val [48]=0 from rfl,Lib.decDigits,dif_pos (by decide)];rfl
  | _ :: _ :: _,_,hl,_=>simp at hl
  | [],h1,_,_=>simp at h1
 have:=(AkJ l.reverse (by intro h;rw[List.reverse_eq_nil_iff] at h;subst h;simp at h1) (by simpa using hd) (by simpa using h48)).2
 simpa using this
open Go.ChangeShapes Go.WideShapes Go.ChangeAt Go.RowKit
theorem AkK:It.NumBack:=λd m h=>by
 have hN:Fig.parseN d m=Fig.val d:=by rw[Fig.parseN,ArZ h]
 rw[Fig.parseB,AsF] at h
 have hd:d.all Fig.dig=true:=by
  have:=h.1
  rw[Fig.form,AsF] at this
  exact this.2
 rw[hN]
 exact⟨(Fig.val_bd d hd).1,AgI d h.1⟩
def ItemLe (B:Nat) (y:It.Itm):Prop:=y.name.length<=B/\y.n<=1099511627776/\y.e0.n.length<=B/\y.e1.n.length<=B
theorem tU {B:Nat} {a:List UInt8} (h:a.length<=B):(It.tip a).n.length<=B:=by
 unfold It.tip
 split
 ·simp;omega
 simp[It.Tp.zero]
theorem parseN_le {d:List UInt8} {m:Int} (h:Fig.parseB d m=true):Fig.parseN d m<=m:=by
 rw[Fig.parseN,ArZ h]
 rw[Fig.parseB,AsF,AsC] at h
 exact h.2
theorem nE (k:Int):It.most k<=1099511627776:=by
 unfold It.most;repeat (split;· decide)
 decide
theorem AgJ {B:Nat} {k:Int} {T:List (List UInt8)} {y:It.Itm} (hT:∀ t∈T,t.length<=B) (h:It.parseK k T=some y):ItemLe B y:=by
 unfold It.parseK at h
 split at h
 ·split at h
  ·split at h
   ·rename_i d hp
    cases h
    have:=parseN_le hp
    have:=nE k
    exact⟨by simp,by show Fig.parseN d (It.most k)<=_;omega,by simp[It.Tp.zero],by simp[It.Tp.zero]⟩
   cases h
  cases h
 split at h
 ·split at h
  ·split at h
   ·rename_i m d hp
    cases h
    simp only[AsF] at hp
    exact⟨hT m (by simp),parseN_le hp.1.2,by simp[It.Tp.zero],by simp[It.Tp.zero]⟩
   cases h
  cases h
 split at h
 ·split at h
  ·split at h
   ·rename_i a b hp
    cases h
    exact⟨by simp,by simp,tU (hT a (by simp)),tU (hT b (by simp))⟩
   cases h
  cases h
 split at h
 ·split at h
  ·split at h
   ·rename_i a hp
    cases h
    exact⟨by simp,by simp,tU (hT a (by simp)),by simp[It.Tp.zero]⟩
   cases h
  cases h
 split at h
 ·split at h
  ·split at h
   ·rename_i m a hp
    cases h
    exact⟨hT m (by simp),by simp,tU (hT a (by simp)),by simp[It.Tp.zero]⟩
   cases h
  cases h
 cases h
theorem wC {l:List UInt8} {y:It.Itm} (h:It.parse l=some y):ItemLe l.length y:=by
 unfold It.parse at h
 split at h
 ·rename_i hw
  have hle:=wT l hw
  cases hW:Ln.words l with
  | nil=>rw[hW] at h;cases h
  | cons x T =>
    rw[hW] at h hle
    exact AgJ (λt ht=>hle t (by simp[ht])) h
 cases h
theorem AnP (y:It.Itm):ofV y.k (txt y.name) y.n (txt y.e0.n) y.e0.c (txt y.e1.n) y.e1.c=y:=by simp[ofV,aT]
def cells7 (y:It.Itm):List Value:=[.int .i64 y.k,.string (txt y.name),.int .i64 y.n,.string (txt y.e0.n),.int .u8 y.e0.c.toNat,.string (txt y.e1.n),.int .u8 y.e1.c.toNat]
def aY (L:List It.Itm):List Value:=L.flatMap cells7
theorem dG (a b:List It.Itm):aY (a++b)=aY a++aY b:=by simp[aY]
theorem iW (y:It.Itm):aY [y]=cells7 y:=by simp[aY]
theorem gJ (y:It.Itm) (L:List It.Itm):aY (y :: L)=cells7 y++aY L:=by simp[aY]
theorem bT (y:It.Itm):(cells7 y).length=7:=rfl
theorem eS:∀ L:List It.Itm,(aY L).length=L.length*7
 | []=>rfl
 | y :: L=>by rw[gJ,ArV,eS L,bT,AsJ];omega
theorem lB:∀ (L:List It.Itm) (k j:Nat) (y:It.Itm),L[k]?=some y->j<7->(aY L)[k*7+j]?=(cells7 y)[j]?
 | [],_,_,_,h,_=>by simp at h
 | x :: L,0,j,y,h,hj=>by
   obtain rfl:x=y:=by simpa using h
   rw[gJ,List.getElem?_append_left (by rw[bT];omega)]
   congr 1;omega
 | x :: L,k+1,j,y,h,hj=>by
   rw[gJ,List.getElem?_append_right (by rw[bT];omega),bT]
   rw[show (k+1)*7+j-7=k*7+j by omega]
   exact lB L k j y (by simpa using h) hj
theorem iX (y:It.Itm):∀ u∈cells7 y,u.oneCell'=true:=λu hu=>by
 simp[cells7] at hu
 rcases hu with rfl|rfl|rfl|rfl|rfl|rfl|rfl <;> rfl
def It7 (w:World) (b o:Nat) (y:It.Itm):Prop:=∀ j v,(cells7 y)[j]?=some v->w.cell? ⟨b,o+j,none⟩=some v
theorem It7.cells {w:World} {b o:Nat} {y:It.Itm} (h:It7 w b o y) :
 w.cell? ⟨b,o,none⟩=some (.int .i64 y.k)/\w.cell? ⟨b,o+1,none⟩=some (.string (txt y.name))/\w.cell? ⟨b,o+2,none⟩=some (.int .i64 y.n)/\w.cell? ⟨b,o+3,none⟩=some (.string (txt y.e0.n))/\w.cell? ⟨b,o+4,none⟩=some (.int .u8 y.e0.c.toNat) /\
  w.cell? ⟨b,o+5,none⟩=some (.string (txt y.e1.n))/\w.cell? ⟨b,o+6,none⟩=some (.int .u8 y.e1.c.toNat) :=
 ⟨h 0 _ rfl,h 1 _ rfl,h 2 _ rfl,h 3 _ rfl,h 4 _ rfl,h 5 _ rfl,h 6 _ rfl⟩
def Its (w:World) (A:Option Addr) (L:List It.Itm):Prop :=
 L=[]∨∃ b o,A=some ⟨b,o,none⟩/\b<w.heap.size/\∀ k y,L[k]?=some y->It7 w b (o+k*7) y
theorem Its.nil (w:World) (A:Option Addr):Its w A []:=.inl rfl
theorem Its.below {w w':World} {A:Option Addr} {L:List It.Itm} {B:Nat} (h:Its w A L) (hB:B=w.heap.size) (hb:Below B w w'):Its w' A L:=by
 subst hB
 rcases h with h|⟨b,o,hA,hlt,h⟩
 ·exact .inl h
 have:=hb.size
 exact .inr ⟨b,o,hA,by omega,λk y hk j v hv=>by rw[hb.cell (show (⟨b,o+k*7+j,none⟩:Addr).block<w.heap.size from hlt)];exact h k y hk j v hv⟩
theorem Its.at {w:World} {A:Option Addr} {L:List It.Itm} (h:Its w A L) {k:Nat} (hk:k<L.length):∃ b o,A=some ⟨b,o,none⟩/\b<w.heap.size/\It7 w b (o+k*7) L[k]:=by
 rcases h with rfl|⟨b,o,hA,hlt,h⟩
 ·simp at hk
 exact⟨b,o,hA,hlt,h k _ (ArN hk)⟩
theorem Its.of_own {w:World} {base:Nat} {e:TypeId} {v:Value} {n:Nat} {L:List It.Itm} (h:w.ownsRow base e 7 v n (aY L)) :
 n=L.length/\∃ A c,v=.slice A n c/\n<=c/\Its w A L:=by
 have hl:L.length=n:=by have:=h.1;rw[eS] at this;omega
 refine⟨hl.symm,?_⟩
 rcases h.2 with ⟨rfl,rfl⟩|⟨g,cap,cur,rfl,_,hh,hc,_⟩
 ·exact⟨none,0,rfl,ArR _,.inl (AsR hl)⟩
 refine⟨some ⟨g,0,none⟩,cap,rfl,hc,.inr ⟨g,0,rfl,(ArL hh).1,λk y hk j u hu=>?_⟩⟩
 have hj:j<7:=by
  have:=(ArM hu).1
  rwa [bT] at this
 have:=h.cells (g:=g) rfl (k*7+j) u (by rw[lB L k j y hk hj];exact hu)
 rw[Go.WideShapes.add_plain] at this
 rw[show 0+k*7+j=0+(k*7+j) by omega]
 exact this
theorem Its.news {w:World} {b o:Nat} {L:List It.Itm} (h:∀ k y,L[k]?=some y->It7 w b (o+k*7) y):∀ j u,(aY L)[j]?=some u->w.cell? ((⟨b,o,none⟩:Addr).add j)=some u:=λj u hu=>by
 have hl:=(ArM hu).1
 rw[eS] at hl
 have hk:j / 7<L.length:=by omega
 have e:=lB L (j / 7) (j % 7) _ (ArN hk) (Nat.mod_lt _ (by omega))
 rw[show j / 7*7+j % 7=j by omega,hu] at e
 rw[Go.WideShapes.add_plain]
 have:=h (j / 7) _ (ArN hk) (j % 7) u e.symm
 rwa [show o+j / 7*7+j % 7=o+j by omega] at this
abbrev lW (y:It.Itm):Value:=.agg #[.int .i64 y.k,.string (txt y.name),.int .i64 y.n,.string (txt y.e0.n),.int .u8 y.e0.c.toNat,.string (txt y.e1.n),.int .u8 y.e1.c.toNat]
theorem AkL:(Tryz.prog.info? 67).map (λi=>(i.zero,i.size,i.bytes))=some (some (.agg #[.int .i64 0,.string ⟨#[]⟩,.int .i64 0,.string ⟨#[]⟩,.int .u8 0,.string ⟨#[]⟩,.int .u8 0]),7,80):=by kernel_rfl
def AaT (n:Nat):Value:=if n=0 then .agg #[.int .i64 0,.int .i64 0] else .agg #[.int .i64 2,.int .i64 n]
def SheetGives (p:List It.Itm × Nat) (w:World) (e:Ending) (w':World):Prop :=
 ∃ A c,p.1.length<=c/\e=.returned (.tuple #[.slice A p.1.length c,AaT p.2])/\Its w' A p.1/\Below w.heap.size w w'
theorem SheetGives.bad {p:List It.Itm × Nat} {w w':World} {e:Ending} (k:Nat) (hp:p=([],k+1)) (he:e=.returned (.tuple #[.slice none 0 0,.agg #[.int .i64 2,.int .i64 ((k:Int)+1)]])) (hb:Below w.heap.size w w'):SheetGives p w e w':=by
 subst hp;exact⟨none,0,ArR _,by rw[he,AaT,ArY (by omega)];simp,.inl rfl,hb⟩
theorem SheetGives.good {p:List It.Itm × Nat} {w w':World} {e:Ending} {A:Option Addr} {n c:Nat} {L:List It.Itm} (hp:p=(L,0)) (hn:n=L.length) (hc:n<=c) (he:e=.returned (.tuple #[.slice A n c,.agg #[.int .i64 0,.int .i64 0]])) (hs:Its w' A L) (hb:Below w.heap.size w w'):SheetGives p w e w':=by
 subst hp hn;exact⟨A,c,hc,by rw[he];rfl,hs,hb⟩
theorem row2f {w:World} {g:Nat} {a b:Value} {t:TypeId} (h:w.heap[g]?=some (.cells #[a,b] t (0,0))) :
 (w.cell? ⟨g,0,none⟩=some a/\w.cell? ⟨g,1,none⟩=some b)/\(w.frozen? ⟨g,0,none⟩=false/\w.frozen? ⟨g,1,none⟩=false)/\g<w.heap.size :=
 ⟨⟨AsY w g 0 _ t _ h,AsY w g 1 _ t _ h⟩,⟨AsZ w g 0 _ t h,AsZ w g 1 _ t h⟩,(ArL h).1⟩
theorem ApN {wh:Bool} {L:List (List UInt8)} {k:Nat} (hk:k<L.length) {y:It.Itm} (hy:It.parse L[k]=some y) (h:wh=true∨k+1<L.length):Sh.good wh L k=true:=by
 rw[Sh.good_iff hk,hy]
 rcases h with rfl|h
 ·rfl
 rw[decide_eq_true h];simp
theorem ApO {wh:Bool} {L:List (List UInt8)} {k:Nat} (hk:k<L.length) (hy:It.parse L[k]=none):Sh.good wh L k=false:=by
 rw[Sh.good_iff hk,hy];rfl
theorem ApP {L:List (List UInt8)} {k:Nat} (hk:k<L.length) (h:¬ k+1<L.length):Sh.good false L k=false:=by
 rw[Sh.good_iff hk,decide_eq_false h];simp
theorem AgK {wh:Bool} {L:List (List UInt8)} {k:Nat} (h0:∀ j<k,Sh.good wh L j=true) (h:Sh.good wh L k=true):∀ j<k+1,Sh.good wh L j=true:=λj hj=>by
 rcases Nat.lt_or_ge j k with h1|h1
 ·exact h0 j h1
 obtain rfl:j=k:=by omega
 exact h
theorem lX (s:ByteArray) (w:World) (hs:s.size<=1000000) :
 Calls Tryz.prog 9 #[.string s] w (SheetGives (Sh.parse s.data.toList) w):=by
 obtain⟨i0,hi,hz0,hz1,hz2⟩:=info_parts AkL
 have hb0:=hid ((AtB w).alloc (ArR _) (.cells #[.int .i64 0,.int .i64 0] 42))
 have W:=AaN s (w.alloc (.cells #[.int .i64 0,.int .i64 0] 42)) hs
 have R0:=hid (show (w.alloc (.cells #[.int .i64 0,.int .i64 0] 42)).heap[w.heap.size]?=some (.cells #[.int .i64 0,.int .i64 0] 42 (0,0)) from AsW _ _)
 have hsz:s.data.toList.length=s.size:=by simp
 obtain⟨hle,hln⟩:=Sh.split_le s.data.toList
 have PS:=hid (λk=>@Sh.parse_some s.data.toList k)
 have PN:=hid (@Sh.parse_none s.data.toList)
 obtain⟨L,hL⟩:∃ L,Ln.split s.data.toList=L:=⟨_,rfl⟩
 obtain⟨wh,hwh⟩:∃ wh,Ln.whole s.data.toList=wh:=⟨_,rfl⟩
 rw[hL,hwh] at W PS PN
 rw[hL] at hle hln
 have hlen:L.length<=1000001:=by omega
 have LE:=hid (λx hx=>ArS (hle x hx) (show s.data.toList.length<=1000000 by omega))
 have C:=hid W
 clear W hsz hle hln hL hwh
 go_enter Tryz.func9,Tryz.ntmps9
 go_wp2_with fail
 refine C.out.mono ?_;rintro e w1 ⟨a,c,hc,rfl,hs1,hb1⟩
 have r1:=(hb1.block _ (show w.heap.size<(w.alloc (.cells #[.int .i64 0,.int .i64 0] 42)).heap.size by simp)).trans R0.out
 have R1:=hid r1
 have hz1':=(row2f r1).2.2
 have hbW:=hid (hb0.out.trans (hb1.mono (by simp)))
 clear r1 hb1
 go_wp2
 go_loopw [6,7] (λv i wr=>∃ k:Nat,k<=L.length/\i=.int .i64 k/\(∀ j<k,Sh.good wh L j=true)/\wr.ownsRow w1.heap.size 67 7 v k (aY (Sh.items (L.take k)))/\Below w1.heap.size w1 wr) (λ_ i _=>L.length-(intOf i).toNat)
 case atStart=>exact⟨0,AsD _,rfl,λj hj=>absurd hj (by omega),World.ownsRow_nil _ _ _ _,Below.refl _ _⟩
 case round =>
  obtain⟨k,hk,rfl,hg,hown,hbel⟩:=hrel
  have HG:=hid hg
  clear hg
  have hz:=hbel.size
  have RR:=hid (cQ R1.out hbel)
  by_cases hlt:k<L.length
  ·obtain⟨a',rfl,hb,hcell⟩:=(hs1.below rfl hbel).cell hlt
   rw[str] at hcell
   have PC:=hid (lV (txt L[k]) wr (by rw[bJ];exact LE.out _ (List.getElem_mem hlt)))
   rw[aT] at PC
   have OW:=hid hown
   clear hown
   go_wp2_with fail
   refine PC.out.mono ?_;rintro e w2 ⟨y,rfl,hyy,hb2⟩
   have r2:=cQ RR.out hb2
   obtain⟨⟨a0,a1⟩,⟨f0,f1⟩,hgz⟩:=row2f r2
   have n0:=World.new_ne _ _ a0
   have hbX:=hid (hbW.out.trans ((hbel.mono hbW.out.size).trans (hb2.mono (ArS hbW.out.size hz))))
   clear r2
   cases hpk:It.parse L[k] with
   | none =>
     have P:=hid (PS.out _ (Sh.bad_at hlt HG.out (ApO hlt hpk)))
     clear hpk hyy
     rw[Option.isSome_none]
     go_wp2_with fail
     refine bodyPost_ret ?_ rfl (SheetGives.bad k P.out rfl ?_)
     ·simp[results,Tryz.results9,go_sem, *]
     refine Below.alloc ?_ (by simpa using hbX.out.size) _;(repeat (with_reducible refine Below.setCell ?_ (by first|exact ArR _|exact Nat.le_succ _) _));exact hbX.out
   | some z =>
     obtain rfl:y=z:=by rw[hpk] at hyy;exact hyy
     clear hyy
     rw[Option.isSome_some]
     by_cases hend:wh=true∨k+1<L.length
     ·have HN:=hid (AgK HG.out (ApN hlt hpk hend))
      have IT:=hid (Sh.items_snoc hlt hpk)
      have OW2:=hid (((aA OW.out hb2).alloc (.cells (cells7 y).toArray 67)).alloc (.cells (cells7 y).toArray 67))
      have NW:=hid (show ∀ j u,(cells7 y)[j]?=some u->((w2.alloc (.cells (cells7 y).toArray 67)).alloc (.cells (cells7 y).toArray 67)).cell? ((⟨w2.heap.size+1,0,none⟩:Addr).add j)=some u from
       λj u hu=>World.news_of_block (B:=w2.heap.size+1) (cs:=(cells7 y).toArray) (t:=67) (fr:=(0,0)) (by have:=AsW (w2.alloc (.cells (cells7 y).toArray 67)) (.cells (cells7 y).toArray 67);simpa using this) j u (by simpa using hu))
      clear hpk
      have hbz:=hb2.size
      have hbE:=hid ((hbel.trans (hb2.mono hz)).alloc (by omega) (.cells (cells7 y).toArray 67) |>.alloc (by simp;omega) (.cells (cells7 y).toArray 67))
      by_cases hl:k+1<L.length
      ·have h1:((k:Int) == (L.length:Int)-1)=false:=by rw[ArU];omega
       clear hend hl
       go_wp2_with (at_builtin;refine wpList_append_own _ rfl (.tmp 45) (.tmp 47) 40 rfl w1.heap.size 67 i0 _ 7 80 Tryz.underlying40 hi hz0 hz1 hz2 rfl (by decide) _ _ _ rfl OW2.out ⟨w2.heap.size+1,0,none⟩ 1 1 (cells7 y) rfl rfl NW.out (iX y) (by unfold maxLen;omega) (by omega) (by simp;omega) ?_;intro v1 w3 hown1 hg1 _)
       have hB3:=hid (hbE.out.grown hg1 (by simp;omega) (λg hg=>(OW2.out.lt g hg).1))
       have O3:=hid hown1
       clear hown1 hg1
       go_wp2
       go_roundw
       case rel=>exact⟨k+1,by omega,by go_num,HN.out,by rw[IT.out,dG,iW];exact O3.out,hB3.out⟩
       case measure=>simp[intOf];omega
      have h1:((k:Int) == (L.length:Int)-1)=true:=by rw[beq_iff_eq];omega
      obtain rfl:wh=true:=by rcases hend with h|h;exact h;exact absurd h hl
      clear hend hl
      go_wp2_with (at_builtin;refine wpList_append_own _ rfl (.tmp 45) (.tmp 47) 40 rfl w1.heap.size 67 i0 _ 7 80 Tryz.underlying40 hi hz0 hz1 hz2 rfl (by decide) _ _ _ rfl OW2.out ⟨w2.heap.size+1,0,none⟩ 1 1 (cells7 y) rfl rfl NW.out (iX y) (by unfold maxLen;omega) (by omega) (by simp;omega) ?_;intro v1 w3 hown1 hg1 _)
      have hB3:=hid (hbE.out.grown hg1 (by simp;omega) (λg hg=>(OW2.out.lt g hg).1))
      have O3:=hid hown1
      clear hown1 hg1
      go_wp2
      go_roundw
      case rel=>exact⟨k+1,by omega,by go_num,HN.out,by rw[IT.out,dG,iW];exact O3.out,hB3.out⟩
      case measure=>simp[intOf];omega
     obtain⟨hw,hl⟩:wh=false/\¬ k+1<L.length:=⟨by cases wh <;> simp_all,λh=>hend (.inr h)⟩
     subst hw
     have P:=hid (PS.out _ (Sh.bad_at hlt HG.out (ApP hlt hl)))
     have h1:((k:Int) == (L.length:Int)-1)=true:=by rw[beq_iff_eq];omega
     clear hpk hend hl
     go_wp2_with fail
     refine bodyPost_ret ?_ rfl (SheetGives.bad k P.out rfl ?_)
     ·simp[results,Tryz.results9,go_sem, *]
     refine Below.alloc ?_ (by simpa using hbX.out.size) _;(repeat (with_reducible refine Below.setCell ?_ (by first|exact ArR _|exact Nat.le_succ _) _));exact hbX.out
  have H0:=hid (PN.out (Sh.bad_no λj hj=>HG.out j (by omega)))
  have RR2:=RR.out
  obtain⟨⟨a0,a1⟩,⟨f0,f1⟩,hgz⟩:=row2f RR2
  obtain rfl:k=L.length:=by omega
  have e0:L.take L.length=L:=AsT (ArR _)
  rw[e0] at hown
  obtain⟨hn,A,c',rfl,hcap,hits⟩:=Its.of_own (ownsRow_setCell_below (ownsRow_setCell_below hown (a:=⟨w.heap.size,0,none⟩) hz1' (.int .i64 0)) (a:=⟨w.heap.size,1,none⟩) hz1' (.int .i64 0))
  have HN:=hid hn
  clear e0 hown hn RR2
  go_wp2_with fail
  refine bodyPost_ret ?_ rfl (SheetGives.good (A:=A) H0.out HN.out hcap rfl hits ?_)
  ·simp[results,Tryz.results9,go_sem, *]
  (repeat (with_reducible refine Below.setCell ?_ (by first|exact ArR _|exact Nat.le_succ _) _));exact hbW.out.trans (hbel.mono hbW.out.size)
end Go.Proofs.YtjofpclmbjpgjaaGreat
