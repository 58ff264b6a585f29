/-
 Texts of this claim, merged: LnSpec, FigSpec, ItSpec, ShSpec, PlSpec, PlSort, PlOk, PlLink, PlTip, PlItems, PlBack, PlAgain, PlFacts.
-/
import Derived.Lib.ItoaNum
import Derived.Lib.Join
import Derived.Lib.Split
import Derived.Lib.SplitLaws
import Derived.WalkKit
namespace Go.Proofs.YtncphjodaklleaaGreat.Ln
open Go
def step (c:UInt8) (p:List (List UInt8) × List UInt8) (x:UInt8):List (List UInt8) × List UInt8:=if x=c then (p.1++[p.2],[]) else (p.1,p.2++[x])
def st (c:UInt8) (l:List UInt8):List (List UInt8) × List UInt8:=l.foldl (step c) ([],[])
def cut (c:UInt8) (l:List UInt8):List (List UInt8):=(st c l).1++[(st c l).2]
def text (L:List (List UInt8)):List UInt8:=(L.map (· ++ [10])).flatten
def whole (l:List UInt8):Bool:=(st 10 l).2.isEmpty
def split (l:List UInt8):List (List UInt8):=if whole l then (st 10 l).1 else cut 10 l
def okw (x:UInt8):Bool:=decide (33≤(x.toNat:Int)) && decide ((x.toNat:Int)≤126)
def ws:Bool→List UInt8→Bool
 | p,[]=>!p
 | p,x :: t=>if x=32 then (if p then false else ws true t) else (if okw x then ws false t else false)
def words (l:List UInt8):List (List UInt8):=if ws true l then cut 32 l else []
def line (L:List (List UInt8)):List UInt8:=Lib.join L [32]
def okb (x:UInt8):Bool:=decide (x=32) || okw x
theorem st_snoc (c:UInt8) (l:List UInt8) (x:UInt8):st c (l++[x])=step c (st c l) x:=by simp [st]
theorem fold_ahead (c:UInt8) (d:List (List UInt8)):∀ (l:List UInt8) (d0:List (List UInt8)) (r:List UInt8),l.foldl (step c) (d++d0,r)=(d++(l.foldl (step c) (d0,r)).1,(l.foldl (step c) (d0,r)).2)
 | [],_,_=>rfl
 | x :: t,d0,r=>by
   simp only [List.foldl_cons,step]
   by_cases h:x=c
   ·rw[if_pos h,if_pos h,List.append_assoc];exact fold_ahead c d t _ _
   ·rw[if_neg h,if_neg h];exact fold_ahead c d t _ _
theorem st_len (c:UInt8) (l:List UInt8):(st c l).1.length≤l.length:=by
 have : ∀ (l:List UInt8) (d:List (List UInt8)) (r:List UInt8),(l.foldl (step c) (d,r)).1.length≤d.length+l.length:=by
  intro l
  induction l with
  | nil=>intro d r;simp
  | cons x t ih =>
    intro d r
    simp only [List.foldl_cons,step,List.length_cons]
    split
    ·have:=ih (d++[r]) [];simp at this;omega
    ·have:=ih d (r++[x]);omega
 simpa [st] using this l [] []
theorem st_join (c:UInt8) (l:List UInt8):((st c l).1.map (· ++ [c])).flatten++(st c l).2=l:=by
 have : ∀ (l:List UInt8) (d:List (List UInt8)) (r:List UInt8),((l.foldl (step c) (d,r)).1.map (· ++ [c])).flatten++(l.foldl (step c) (d,r)).2=(d.map (· ++ [c])).flatten++r++l:=by
  intro l
  induction l with
  | nil=>intro d r;simp
  | cons x t ih =>
    intro d r
    simp only [List.foldl_cons,step]
    split
    ·rename_i h;rw[ih];simp [h]
    ·rw[ih];simp
 simpa [st] using this l [] []
theorem join_snoc (c:UInt8):∀ (D:List (List UInt8)) (r:List UInt8),Lib.join (D++[r]) [c]=(D.map (· ++ [c])).flatten++r
 | [],r=>by simp [Lib.join,List.intercalate]
 | x :: D,r=>by
   have ih:=join_snoc c D r
   rw [List.cons_append,Lib.join_cons]
   cases D with
   | nil=>simp [Lib.joinTail]
   | cons y D =>
     rw [List.cons_append,Lib.join_cons] at ih
     simp only [List.cons_append,Lib.joinTail,List.map_cons,List.flatten_cons,List.nil_append] at ih ⊢
     rw [ih]
     simp
theorem text_split (l:List UInt8):decide (text (split l)=l)=whole l:=by
 have hj:=st_join 10 l
 rw [split]
 by_cases h:whole l=true
 ·rw [if_pos h,h]
  rw [whole,List.isEmpty_iff] at h
  rw [h,List.append_nil] at hj
  exact decide_eq_true hj
 ·rw [if_neg h]
  have hf:whole l=false:=by simpa using h
  rw [hf,decide_eq_false_iff_not]
  intro e
  have:text (cut 10 l)=l++[10]:=by
   rw [cut,text,List.map_append,List.flatten_append]
   simp only [List.map_cons,List.map_nil,List.flatten_cons,List.flatten_nil,List.append_nil]
   rw [← List.append_assoc,hj]
  rw [this] at e
  have:=congrArg List.length e
  simp at this
theorem fold_mem (c:UInt8) (l:List UInt8) (d:List (List UInt8)) (r x:List UInt8) (h:x∈d):x∈(l.foldl (step c) (d,r)).1:=by
 have:=fold_ahead c d l [] r
 rw [List.append_nil] at this
 rw [this]
 exact List.mem_append_left _ h
theorem ws_gen:∀ (l:List UInt8) (d:List (List UInt8)) (r:List UInt8),(∀ x∈d,x≠[]) →
 ws r.isEmpty l=(l.all okb && ((l.foldl (step 32) (d,r)).1++[(l.foldl (step 32) (d,r)).2]).all (fun x=>!x.isEmpty))
 | [],d,r,h=>by
   have:d.all (fun x=>!x.isEmpty)=true:=by simpa using h
   simp only [ws,List.foldl_nil,List.all_nil,Bool.true_and,List.all_append,this,List.all_cons,Bool.and_true]
 | x :: t,d,r,h=>by
   simp only [ws,List.foldl_cons,step,List.all_cons]
   by_cases hx:x=32
   ·subst hx
    rw [if_pos rfl,if_pos rfl]
    by_cases hr:r=[]
    ·subst hr
     have hm:([]:List UInt8)∈(t.foldl (step 32) (d++[[]],[])).1:=fold_mem _ _ _ _ _ (by simp)
     have:(((t.foldl (step 32) (d++[[]],[])).1++[(t.foldl (step 32) (d++[[]],[])).2]).all (fun x=>!x.isEmpty))=false:=by
      rw [List.all_eq_false]
      exact ⟨[],List.mem_append_left _ hm,by simp⟩
     rw [this]
     simp
    ·have h2:=ws_gen t (d++[r]) [] (by
      intro y hy
      rcases List.mem_append.1 hy with hy | hy
      ·exact h y hy
      ·simp at hy;subst hy;exact hr)
     rw [show r.isEmpty=false by simpa using hr]
     simp only [List.isEmpty_nil] at h2
     rw [if_neg (by simp),h2]
     simp [okb]
   ·rw [if_neg hx,if_neg hx]
    by_cases ho:okw x=true
    ·have h2:=ws_gen t d (r++[x]) h
     rw [show (r++[x]).isEmpty=false by simp] at h2
     rw [if_pos ho,h2]
     simp [okb,ho]
    ·rw [if_neg ho]
     simp [okb,hx,ho]
theorem ws_eq (l:List UInt8):ws true l=(l.all okb && (cut 32 l).all (fun x=>!x.isEmpty)):=ws_gen l [] [] (by simp)
theorem line_words (l:List UInt8) (h:ws true l=true):line (words l)=l∧words l≠[]:=by
 rw [words,if_pos h,line,cut,join_snoc,st_join]
 exact ⟨rfl,by simp⟩
end Go.Proofs.YtncphjodaklleaaGreat.Ln
namespace Go.Proofs.YtncphjodaklleaaGreat.Fig
def dig (c:UInt8):Bool:=decide (48≤(c.toNat:Int)∧(c.toNat:Int)≤57)
def let_ (c:UInt8):Bool:=decide ((97≤(c.toNat:Int)∧(c.toNat:Int)≤122)∨(65≤(c.toNat:Int)∧(c.toNat:Int)≤90))
def nameB (l:List UInt8):Bool:=decide (1≤l.length∧l.length≤8) && l.all fun c=>dig c || let_ c
def val (l:List UInt8):Int:=l.foldl (fun n c=>10 * n+((c.toNat:Int) - 48)) 0
def pad (l:List UInt8):Bool:=decide (1<l.length) && l.head? == some 48
def form (l:List UInt8):Bool:=decide (1≤l.length∧l.length≤13) && !pad l && l.all dig
def parseB (l:List UInt8) (most:Int):Bool:=form l && decide (val l≤most)
def parseN (l:List UInt8) (most:Int):Int:=if parseB l most then val l else 0
theorem val_snoc (l:List UInt8) (c:UInt8):val (l++[c])=10 * val l+((c.toNat:Int) - 48):=by
 simp [val,List.foldl_append]
theorem val_bd (l:List UInt8) (h:l.all dig=true):0≤val l∧val l<10 ^ l.length:=by
 suffices H:∀ (r:List UInt8),r.all dig=true→0≤val r.reverse∧val r.reverse<10 ^ r.length by
  have:=H l.reverse (by simpa using h)
  simpa using this
 intro r
 induction r with
 | nil=>intro _;simp [val]
 | cons c r ih =>
   intro h
   simp only [List.all_cons,Bool.and_eq_true] at h
   have h1:=ih h.2
   have h2:48≤(c.toNat:Int)∧(c.toNat:Int)≤57:=by simpa [dig] using h.1
   rw [List.reverse_cons,val_snoc]
   simp only [List.length_cons,Int.pow_succ]
   omega
end Go.Proofs.YtncphjodaklleaaGreat.Fig
namespace Go.Proofs.YtncphjodaklleaaGreat.It
open Go
def word (k:Int):List UInt8 :=
 if k=1 then [111,118,101,114,108,97,112]
 else if k=2 then [97,112,112,114,111,97,99,104]
 else if k=3 then [115,101,116,116,108,101]
 else if k=4 then [104,111,108,100]
 else if k=5 then [115,101,99,116,105,111,110]
 else if k=6 then [112,111,105,110,116]
 else if k=7 then [106,111,105,110]
 else if k=8 then [98,117,102,102,101,114]
 else if k=9 then [115,105,103,110,97,108]
 else []
def kind (l:List UInt8):Int :=
 if l=word 1 then 1 else if l=word 2 then 2 else if l=word 3 then 3 else if l=word 4 then 4 else if l=word 5 then 5
 else if l=word 6 then 6 else if l=word 7 then 7 else if l=word 8 then 8 else if l=word 9 then 9 else 0
theorem kind_word (k:Nat) (h1:1≤k) (h2:k≤9):kind (word k)=k:=by
 obtain rfl | rfl | rfl | rfl | rfl | rfl | rfl | rfl | rfl:k=1∨k=2∨k=3∨k=4∨k=5∨k=6∨k=7∨k=8∨k=9:=by omega
 all_goals decide
theorem kind_hit {l:List UInt8} {k:Nat} (h1:1≤k) (h2:k≤9) (h:word k=l):kind l=k:=by rw[← h];exact kind_word k h1 h2
theorem kind_none {l:List UInt8} (h:∀ k:Nat,1≤k→k≤9→word k≠l):kind l=0:=by
 have n1:l≠word 1:=fun e=>h 1 (by omega) (by omega) e.symm
 have n2:l≠word 2:=fun e=>h 2 (by omega) (by omega) e.symm
 have n3:l≠word 3:=fun e=>h 3 (by omega) (by omega) e.symm
 have n4:l≠word 4:=fun e=>h 4 (by omega) (by omega) e.symm
 have n5:l≠word 5:=fun e=>h 5 (by omega) (by omega) e.symm
 have n6:l≠word 6:=fun e=>h 6 (by omega) (by omega) e.symm
 have n7:l≠word 7:=fun e=>h 7 (by omega) (by omega) e.symm
 have n8:l≠word 8:=fun e=>h 8 (by omega) (by omega) e.symm
 have n9:l≠word 9:=fun e=>h 9 (by omega) (by omega) e.symm
 rw [kind,if_neg n1,if_neg n2,if_neg n3,if_neg n4,if_neg n5,if_neg n6,if_neg n7,if_neg n8,if_neg n9]
theorem kind_cases (l:List UInt8):(kind l=0∧∀ k:Nat,1≤k→k≤9→word k≠l)∨(1≤kind l∧kind l≤9∧word (kind l)=l):=by
 by_cases h:∀ k:Nat,1≤k→k≤9→word k≠l
 ·exact Or.inl ⟨kind_none h,h⟩
 ·refine Or.inr ?_
  have:∃ k:Nat,1≤k∧k≤9∧word k=l:=by
   apply Classical.byContradiction
   intro hc
   exact h fun k a b e=>hc ⟨k,a,b,e⟩
  obtain ⟨k,a,b,e⟩:=this
  rw [kind_hit a b e]
  exact ⟨by omega,by omega,e⟩
def letter (c:UInt8):Bool:=c=97 || c=98 || c=116 || c=110 || c=114
structure Tp where
 n:List UInt8
 c:UInt8
deriving DecidableEq
def Tp.zero:Tp:=⟨[],0⟩
def tipOk (l:List UInt8):Bool:=decide (3≤l.length) && decide (l[l.length - 2]? = some 46) && (l[l.length - 1]?).any letter && Fig.nameB (l.take (l.length - 2))
def tip (l:List UInt8):Tp:=if tipOk l then ⟨l.take (l.length - 2),(l[l.length - 1]?).getD 0⟩ else Tp.zero
def tipT (t:Tp):List UInt8:=t.n++[46]++[t.c]
structure Itm where
 k:Int
 name:List UInt8
 n:Int
 e0:Tp
 e1:Tp
deriving DecidableEq
def Itm.zero:Itm:=⟨0,[],0,Tp.zero,Tp.zero⟩
def most (k:Int):Int:=if k=1 then 1099511627776 else if k=2 then 1099511627776 else if k=3 then 1000 else if k=4 then 1000 else 1099511627776
def least (k:Int):Int:=if k=1 then 0 else if k=2 then 0 else if k=3 then 0 else if k=4 then 0 else 1
def isNum (k:Int):Bool:=decide (1≤k∧k≤4)
def isLen (k:Int):Bool:=decide (5≤k∧k≤6)
def args (x:Itm):List (List UInt8) :=
 if isNum x.k then [Lib.decDigits x.n.toNat]
 else if isLen x.k then [x.name,Lib.decDigits x.n.toNat]
 else if x.k=7 then [tipT x.e0,tipT x.e1]
 else if x.k=8 then [tipT x.e0]
 else if x.k=9 then [x.name,tipT x.e0]
 else []
def print (x:Itm):List UInt8:=Ln.line (word x.k :: args x)
def parseK (k:Int) (t:List (List UInt8)):Option Itm :=
 if isNum k then match t with
  | [d]=>if Fig.parseB d (most k) then some ⟨k,[],Fig.parseN d (most k),Tp.zero,Tp.zero⟩ else none
  | _=>none
 else if isLen k then match t with
  | [m,d]=>if Fig.nameB m && Fig.parseB d 1099511627776 && decide (0<Fig.parseN d 1099511627776) then some ⟨k,m,Fig.parseN d 1099511627776,Tp.zero,Tp.zero⟩ else none
  | _=>none
 else if k=7 then match t with
  | [a,b]=>if tipOk a && tipOk b then some ⟨k,[],0,tip a,tip b⟩ else none
  | _=>none
 else if k=8 then match t with
  | [a]=>if tipOk a then some ⟨k,[],0,tip a,Tp.zero⟩ else none
  | _=>none
 else if k=9 then match t with
  | [m,a]=>if Fig.nameB m && tipOk a then some ⟨k,m,0,tip a,Tp.zero⟩ else none
  | _=>none
 else none
def parseW:List (List UInt8)→Option Itm
 | []=>none
 | h :: t=>parseK (kind h) t
def parse (l:List UInt8):Option Itm:=if Ln.ws true l then parseW (Ln.words l) else none
def right (x:Itm):Bool:=decide (0≤x.n) && decide (parse (print x)=some x)
def NumBack:Prop:=∀ (d:List UInt8) (m:Int),Fig.parseB d m=true→0≤Fig.parseN d m∧Lib.decDigits (Fig.parseN d m).toNat=d
theorem tip_back (l:List UInt8) (h:tipOk l=true):tipT (tip l)=l:=by
 rw [tip,if_pos h,tipT]
 simp only [tipOk,Bool.and_eq_true,decide_eq_true_eq] at h
 obtain ⟨⟨⟨h3,h46⟩,_⟩,_⟩:=h
 have e1:l[l.length - 2]? = some (l[l.length - 2]'(by omega)):=List.getElem?_eq_getElem (by omega)
 have e2:l[l.length - 1]? = some (l[l.length - 1]'(by omega)):=List.getElem?_eq_getElem (by omega)
 rw [e1] at h46
 rw [e2,Option.getD_some]
 have h46':l[l.length - 2]'(by omega)=46:=Option.some.inj h46
 have t1:l.take (l.length - 1)=l.take (l.length - 2)++[l[l.length - 2]'(by omega)]:=by
  rw [show l.length - 1=l.length - 2+1 by omega,List.take_succ_eq_append_getElem (by omega)]
 have t2:l=l.take (l.length - 1)++[l[l.length - 1]'(by omega)]:=by
  conv=>lhs;rw[← List.take_of_length_le (show l.length≤l.length - 1+1 by omega)]
  rw [List.take_succ_eq_append_getElem (by omega)]
 rw [h46'] at t1
 show List.take (l.length - 2) l++[46]++[l[l.length - 1]'(by omega)]=l
 rw [← t1,← t2]
theorem parseK_back (nb:NumBack) (k:Int) (t:List (List UInt8)) (x:Itm) (h:parseK k t=some x):x.k=k∧args x=t∧0≤x.n:=by
 unfold parseK at h
 split at h
 ·rename_i hk
  split at h
  ·split at h
   ·rename_i d hp
    cases h
    exact ⟨rfl,by simp [args,hk,(nb d _ hp).2],(nb d _ hp).1⟩
   ·cases h
  ·cases h
 ·rename_i hk1
  split at h
  ·rename_i hk
   split at h
   ·split at h
    ·rename_i m d hp
     cases h
     simp only [Bool.and_eq_true,decide_eq_true_eq] at hp
     exact ⟨rfl,by simp [args,hk1,hk,(nb d _ hp.1.2).2],by show 0≤Fig.parseN _ _;omega⟩
    ·cases h
   ·cases h
  ·rename_i hk2
   split at h
   ·rename_i hk
    split at h
    ·split at h
     ·rename_i a b hp
      cases h
      simp only [Bool.and_eq_true] at hp
      exact ⟨rfl,by simp [args,isNum,isLen,hk,tip_back _ hp.1,tip_back _ hp.2],Int.le_refl 0⟩
     ·cases h
    ·cases h
   ·rename_i hk3
    split at h
    ·rename_i hk
     split at h
     ·split at h
      ·rename_i a hp
       cases h
       exact ⟨rfl,by simp [args,isNum,isLen,hk,tip_back _ hp],Int.le_refl 0⟩
      ·cases h
     ·cases h
    ·rename_i hk4
     split at h
     ·rename_i hk
      split at h
      ·split at h
       ·rename_i m a hp
        cases h
        simp only [Bool.and_eq_true] at hp
        exact ⟨rfl,by simp [args,isNum,isLen,hk,tip_back _ hp.2],Int.le_refl 0⟩
       ·cases h
      ·cases h
     ·cases h
theorem parseK_kind (k:Int) (t:List (List UInt8)) (x:Itm) (h:parseK k t=some x):k≠0:=by
 rintro rfl
 simp [parseK,isNum,isLen] at h
theorem print_parse (nb:NumBack) (l:List UInt8) (x:Itm) (h:parse l=some x):print x=l∧0≤x.n:=by
 unfold parse at h
 split at h
 ·rename_i hw
  obtain ⟨hl,hne⟩:=Ln.line_words l hw
  cases hW:Ln.words l with
  | nil=>exact absurd hW hne
  | cons a t =>
    rw [hW] at h hl
    have h':parseK (kind a) t=some x:=h
    obtain ⟨h1,h2,h3⟩:=parseK_back nb _ _ _ h'
    have hk:=parseK_kind _ _ _ h'
    rcases kind_cases a with ⟨h0,_⟩ | ⟨_,_,hwd⟩
    ·exact absurd h0 hk
    ·exact ⟨by rw[print,h1,h2,hwd];exact hl,h3⟩
 ·cases h
theorem right_parse (nb:NumBack) (l:List UInt8) (x:Itm) (h:parse l=some x):right x=true:=by
 obtain ⟨h1,h2⟩:=print_parse nb l x h
 rw [right,h1,h]
 simp [h2]
end Go.Proofs.YtncphjodaklleaaGreat.It
namespace Go.Proofs.YtncphjodaklleaaGreat.Sh
open Go
def okL (x:List UInt8):Bool:=(It.parse x).isSome
def good (wh:Bool) (L:List (List UInt8)) (k:Nat):Bool:=(L[k]?).any okL && (wh || decide (k+1<L.length))
def bad (wh:Bool) (L:List (List UInt8)):Option Nat:=(List.range L.length).find? fun k=>!good wh L k
def items (L:List (List UInt8)):List It.Itm:=L.filterMap It.parse
def parse (l:List UInt8):List It.Itm × Nat:=match bad (Ln.whole l) (Ln.split l) with
 | some k=>([],k+1)
 | none=>(items (Ln.split l),0)
def print (L:List It.Itm):List UInt8:=Ln.text (L.map It.print)
theorem bad_at {wh:Bool} {L:List (List UInt8)} {k:Nat} (hk:k<L.length) (h0:∀ j<k,good wh L j=true) (h:good wh L k=false):bad wh L=some k:=by
 rw [bad,List.find?_range_eq_some]
 refine ⟨by simp [h],by simpa using hk,fun j hj=>by simp [h0 j hj]⟩
theorem bad_no {wh:Bool} {L:List (List UInt8)} (h:∀ j<L.length,good wh L j=true):bad wh L=none:=by
 rw [bad,List.find?_range_eq_none]
 intro j hj
 simp [h j hj]
theorem bad_none {wh:Bool} {L:List (List UInt8)} (h:bad wh L=none):∀ j<L.length,good wh L j=true:=by
 rw [bad,List.find?_range_eq_none] at h
 intro j hj
 simpa using h j hj
theorem parse_some {l:List UInt8} {k:Nat} (h:bad (Ln.whole l) (Ln.split l)=some k):parse l=([],k+1):=by rw[parse,h]
theorem parse_none {l:List UInt8} (h:bad (Ln.whole l) (Ln.split l)=none):parse l=(items (Ln.split l),0):=by rw[parse,h]
theorem good_iff {wh:Bool} {L:List (List UInt8)} {k:Nat} (hk:k<L.length):good wh L k=((It.parse L[k]).isSome && (wh || decide (k+1<L.length))):=by
 rw [good,List.getElem?_eq_getElem hk];rfl
theorem good_whole {L:List (List UInt8)} {wh:Bool} (h:∀ j<L.length,good wh L j=true) (hne:L≠[]):wh=true:=by
 have hl:0<L.length:=List.length_pos_iff.2 hne
 have:=h (L.length - 1) (by omega)
 rw [good_iff (by omega),Bool.and_eq_true] at this
 have h2:=this.2
 rw [decide_eq_false (by omega),Bool.or_false] at h2
 exact h2
theorem items_snoc {L:List (List UInt8)} {k:Nat} (hk:k<L.length) {y:It.Itm} (h:It.parse L[k]=some y):items (L.take (k+1))=items (L.take k)++[y]:=by
 rw [List.take_succ_eq_append_getElem hk,items,List.filterMap_append]
 simp [items,h]
theorem items_le (L:List (List UInt8)):(items L).length≤L.length:=List.length_filterMap_le _ _
theorem items_print (nb:It.NumBack):∀ {L:List (List UInt8)},(∀ x∈L,(It.parse x).isSome=true)→(items L).map It.print=L
 | [],_=>rfl
 | x :: L,h=>by
   obtain ⟨y,hy⟩:=Option.isSome_iff_exists.1 (h x (by simp))
   have ih:=items_print nb (L:=L) fun z hz=>h z (by simp [hz])
   rw [items] at ih
   rw [items,List.filterMap_cons,hy]
   simp only [List.map_cons]
   rw [ih,(It.print_parse nb x y hy).1]
theorem good_all {wh:Bool} {L:List (List UInt8)} (h:∀ j<L.length,good wh L j=true):∀ x∈L,(It.parse x).isSome=true:=fun x hx=>by
 obtain ⟨j,hj,rfl⟩:=List.getElem_of_mem hx
 have:=h j hj
 rw [good_iff hj,Bool.and_eq_true] at this
 exact this.1
theorem print_parse (nb:It.NumBack) (l:List UInt8) (h:(parse l).2=0):print (parse l).1=l:=by
 cases hb:bad (Ln.whole l) (Ln.split l) with
 | some k=>rw[parse_some hb] at h;simp at h
 | none =>
   have hg:=bad_none hb
   rw [parse_none hb,print,items_print nb (good_all hg)]
   have ht:=Ln.text_split l
   suffices hw:Ln.whole l=true by rw[hw,decide_eq_true_iff] at ht;exact ht
   by_cases hne:Ln.split l=[]
   ·cases hw:Ln.whole l with
    | true=>rfl
    | false =>
      rw [Ln.split,hw] at hne
      simp [Ln.cut] at hne
   ·exact good_whole hg hne
theorem right_parse {x:It.Itm} (h:It.right x=true):It.parse (It.print x)=some x:=by
 rw [It.right,Bool.and_eq_true,decide_eq_true_iff,decide_eq_true_iff] at h
 exact h.2
theorem mem_flat:∀ (D:List (List UInt8)) (r x:List UInt8),x∈D++[r]→x.length≤((D.map (· ++ [10])).flatten++r).length
 | [],r,x,h=>by simp at h;subst h;simp
 | d :: D,r,x,h=>by
   rcases List.mem_cons.1 (by simpa using h:x∈d :: (D++[r])) with rfl | h2
   ·simp <;> omega
   ·have:=mem_flat D r x h2
    simp only [List.map_cons,List.flatten_cons,List.length_append] at this ⊢;omega
theorem split_le (l:List UInt8):(∀ x∈Ln.split l,x.length≤l.length)∧(Ln.split l).length≤l.length+1:=by
 have hj:=Ln.st_join 10 l
 have hl:=Ln.st_len 10 l
 have hm:=mem_flat (Ln.st 10 l).1 (Ln.st 10 l).2
 rw [hj] at hm
 rw [Ln.split]
 split
 ·exact ⟨fun x hx=>hm x (by simp [hx]),by omega⟩
 ·exact ⟨fun x hx=>hm x hx,by simp [Ln.cut];omega⟩
end Go.Proofs.YtncphjodaklleaaGreat.Sh
namespace Go.Proofs.YtncphjodaklleaaGreat.Pl
open Go It
abbrev Nm:=List UInt8
structure En where
 goes:Int
 at_:Int
 sig:Int
deriving DecidableEq
structure Sec where
 name:Nm
 pt:Bool
 len:Int
 e0:En
 e1:En
 e2:En
deriving DecidableEq
structure Sig where
 name:Nm
 sec:Int
 en:Int
deriving DecidableEq
structure Plan where
 ov:Int
 ap:Int
 se:Int
 ho:Int
 secs:List Sec
 sigs:List Sig
deriving DecidableEq
def Plan.zero:Plan:=⟨0,0,0,0,[],[]⟩
def stop:En:=⟨-1,0,-1⟩
def letter (pt:Bool) (e:Nat):UInt8:=if e=0 then (if pt then 116 else 97) else if e=1 then (if pt then 110 else 98) else if e=2 then (if pt then 114 else 0) else 0
def endAt (pt:Bool) (c:UInt8):Option Nat:=if letter pt 0=c then some 0 else if letter pt 1=c then some 1 else if pt=true∧letter pt 2=c then some 2 else none
def nEnds (pt:Bool):Nat:=if pt then 3 else 2
def isS (x:Itm):Bool:=isLen x.k
def isG (x:Itm):Bool:=decide (x.k=9)
def isPt (x:Itm):Bool:=decide (x.k=6)
def secs (M:List Itm):List Itm:=M.filter isS
def sigs (M:List Itm):List Itm:=M.filter isG
def nmS (M:List Itm):List Nm:=(secs M).map (·.name)
def nmG (M:List Itm):List Nm:=(sigs M).map (·.name)
def ptOf (M:List Itm) (nm:Nm):Bool:=((secs M).find? fun x=>decide (x.name=nm)).any isPt
def ment (x:Itm):List Tp:=if x.k=7 then [x.e0,x.e1] else if x.k=8 then [x.e0] else []
def ments (M:List Itm):List Tp:=M.flatMap ment
def link (t:Tp) (x:Itm):Option (Option Tp) :=
 if x.k=7 then (if x.e0=t then some (some x.e1) else if x.e1=t then some (some x.e0) else none)
 else if x.k=8∧x.e0=t then some none else none
def partner (M:List Itm) (t:Tp):Option (Option Tp):=M.findSome? (link t)
def sigAt (M:List Itm) (t:Tp):Option Nm:=((sigs M).find? fun x=>decide (x.e0=t)).map (·.name)
def num (M:List Itm) (k:Int):Int:=((M.find? fun x=>decide (x.k=k)).map (·.n)).getD 0
def enW (r q:Nm→Int) (M:List Itm) (t:Tp):En :=
 ⟨match partner M t with | none=>-2 | some none=>-1 | some (some u)=>r u.n,
  match partner M t with | some (some u)=>(((endAt (ptOf M u.n) u.c).getD 0:Nat):Int) | _=>0,
  match sigAt M t with | some g=>q g | none=>-1⟩
def tip (x:Itm) (e:Nat):Tp:=⟨x.name,letter (isPt x) e⟩
def secW (r q:Nm→Int) (M:List Itm) (x:Itm):Sec :=
 ⟨x.name,isPt x,x.n,enW r q M (tip x 0),enW r q M (tip x 1),if isPt x then enW r q M (tip x 2) else stop⟩
def sigW (r:Nm→Int) (M:List Itm) (x:Itm):Sig:=⟨x.name,r x.e0.n,(((endAt (ptOf M x.e0.n) x.e0.c).getD 0:Nat):Int)⟩
def ins {α:Type} (key:α→Nm) (a:α):List α→List α
 | []=>[a]
 | b :: l=>if key b<key a then b :: ins key a l else a :: b :: l
def isort {α:Type} (key:α→Nm):List α→List α
 | []=>[]
 | a :: l=>ins key a (isort key l)
def rank (N:List Nm) (nm:Nm):Int:=((N.filter fun a=>decide (a<nm)).length:Nat)
def pos (N:List Nm) (nm:Nm):Int:=((N.findIdx fun a=>decide (a=nm)):Nat)
def fin (M:List Itm):Plan :=
 ⟨num M 1,num M 2,num M 3,num M 4,(isort Itm.name (secs M)).map (secW (rank (nmS M)) (rank (nmG M)) M),(isort Itm.name (sigs M)).map (sigW (rank (nmS M)) M)⟩
def tipErr (M:List Itm) (used:List Tp) (t:Tp):Int :=
 if t.n ∉ nmS M then 4 else if endAt (ptOf M t.n) t.c=none then 5 else if t∈used then 6 else 0
def joinErr (M:List Itm) (x:Itm):Int:=if tipErr M (ments M) x.e0≠0 then tipErr M (ments M) x.e0 else tipErr M (ments M++[x.e0]) x.e1
def sigErr (M:List Itm) (x:Itm):Int :=
 if x.name∈nmG M then 3 else if tipErr M [] x.e0≠0 then tipErr M [] x.e0 else if (sigAt M x.e0).isSome then 3 else if (sigs M).length=12 then 9 else 0
def lineErr (M:List Itm) (x:Itm):Int :=
 if right x=false then 2
 else if isNum x.k then (if M.any (fun y=>decide (y.k=x.k)) then 3 else 0)
 else if isS x then (if x.name∈nmS M then 3 else if (secs M).length=24 then 9 else 0)
 else if x.k=7 then joinErr M x
 else if x.k=8 then tipErr M (ments M) x.e0
 else sigErr M x
def lackErr (M:List Itm) (x:Itm):Int :=
 if isS x then (if (List.range (nEnds (isPt x))).any (fun e=>decide (partner M (tip x e)=none)) then 7 else 0)
 else if isG x then (if ((partner M x.e0).getD none).isSome then 0 else 8)
 else 0
def firstE (f:Nat→Int) (n:Nat):Option Nat:=(List.range n).find? fun i=>decide (f i≠0)
def errAt (L:List Itm) (i:Nat):Int:=lineErr (L.take i) ((L[i]?).getD Itm.zero)
def lackAt (L:List Itm) (i:Nat):Int:=lackErr L ((L[i]?).getD Itm.zero)
def build (L:List Itm):Plan × Int × Nat:=match firstE (errAt L) L.length with
 | some i=>(Plan.zero,errAt L i,i+1)
 | none=>match firstE (lackAt L) L.length with
   | some i=>(Plan.zero,lackAt L i,i+1)
   | none=>(fin L,0,0)
def Sec.get (s:Sec) (e:Nat):En:=if e=0 then s.e0 else if e=1 then s.e1 else s.e2
def tipP (p:Plan) (s e:Nat):Tp:=match p.secs[s]? with
 | some x=>⟨x.name,letter x.pt e⟩
 | none=>Tp.zero
def numsP (p:Plan):List Itm:=([(1,p.ov),(2,p.ap),(3,p.se),(4,p.ho)]:List (Int × Int)).filterMap fun a=>if a.2=0 then none else some ⟨a.1,[],a.2,Tp.zero,Tp.zero⟩
def secI (x:Sec):Itm:=⟨if x.pt then 6 else 5,x.name,x.len,Tp.zero,Tp.zero⟩
def endsP (p:Plan):List (Nat × Nat):=(List.range p.secs.length).flatMap fun s=>(List.range (nEnds (((p.secs[s]?).map Sec.pt).getD false))).map fun e=>(s,e)
def enP (p:Plan) (a:Nat × Nat):En:=((p.secs[a.1]?).map fun x=>x.get a.2).getD stop
def joinP (p:Plan) (a:Nat × Nat):Option Itm :=
 if (a.1:Int)<(enP p a).goes∨(a.1:Int)=(enP p a).goes∧(a.2:Int)<(enP p a).at_ then some ⟨7,[],0,tipP p a.1 a.2,tipP p (enP p a).goes.toNat (enP p a).at_.toNat⟩ else none
def stopP (p:Plan) (a:Nat × Nat):Option Itm:=if (enP p a).goes<0 then some ⟨8,[],0,tipP p a.1 a.2,Tp.zero⟩ else none
def sigI (p:Plan) (g:Sig):Itm:=⟨9,g.name,0,tipP p g.sec.toNat g.en.toNat,Tp.zero⟩
def items (p:Plan):List Itm:=numsP p++p.secs.map secI++(endsP p).filterMap (joinP p)++(endsP p).filterMap (stopP p)++p.sigs.map (sigI p)
theorem nm_irrefl (a:Nm):¬ a<a:=List.lt_irrefl a
theorem nm_trans {a b c:Nm} (h:a<b) (h2:b<c):a<c:=List.lt_trans h h2
theorem nm_tri {a b:Nm} (h:¬ a<b) (h2:¬ b<a):a=b:=List.le_antisymm h2 h
theorem nm_asymm {a b:Nm} (h:a<b):¬ b<a:=fun h2=>nm_irrefl a (nm_trans h h2)
theorem nm_lt_of {a b:Nm} (h:¬ a<b) (hn:a≠b):b<a:=Classical.byContradiction fun h2=>hn (nm_tri h h2)
section
variable {α : Type} (key : α → Nm)
def Rise (l:List α):Prop:=l.Pairwise fun a b=>key a<key b
theorem ins_perm (a:α):∀ l,(ins key a l).Perm (a :: l)
 | []=>.refl _
 | b :: l=>by
   unfold ins
   split
   ·exact ((ins_perm a l).cons b).trans (.swap ..)
   ·exact .refl _
theorem isort_perm:∀ l,(isort key l).Perm l
 | []=>.refl _
 | a :: l=>(ins_perm key a _).trans ((isort_perm l).cons a)
theorem ins_rise (a:α):∀ l,Rise key l→(∀ b∈l,key b≠key a)→Rise key (ins key a l)
 | [],_,_=>by simp [ins,Rise]
 | b :: l,h,hn=>by
   unfold ins
   have h':=List.pairwise_cons.1 h
   split
   ·rename_i hb
    refine List.pairwise_cons.2 ⟨fun c hc=>?_,ins_rise a l h'.2 fun c hc=>hn c (by simp [hc])⟩
    rcases List.mem_cons.1 ((ins_perm key a l).mem_iff.1 hc) with rfl | hc
    ·exact hb
    ·exact h'.1 c hc
   ·rename_i hb
    have hab:=nm_lt_of hb (hn b (by simp))
    refine List.pairwise_cons.2 ⟨fun c hc=>?_,h⟩
    rcases List.mem_cons.1 hc with rfl | hc
    ·exact hab
    ·exact nm_trans hab (h'.1 c hc)
theorem isort_rise:∀ l:List α,(l.map key).Nodup→Rise key (isort key l)
 | [],_=>.nil
 | a :: l,h=>by
   rw [List.map_cons,List.nodup_cons] at h
   refine ins_rise key a _ (isort_rise l h.2) fun b hb e=>h.1 ?_
   rw [← e]
   exact List.mem_map_of_mem ((isort_perm key l).mem_iff.1 hb)
theorem isort_len (l:List α):(isort key l).length=l.length:=(isort_perm key l).length_eq
theorem isort_mem {l:List α} {a:α}:a∈isort key l ↔ a∈l:=(isort_perm key l).mem_iff
end
theorem rank_perm {N M:List Nm} (h:N.Perm M) (nm:Nm):rank N nm=rank M nm:=by
 unfold rank
 rw [(h.filter _).length_eq]
theorem rank_at:∀ {N:List Nm} (_:Rise id N) (i:Nat) (nm:Nm),N[i]? = some nm→rank N nm=i
 | [],_,i,nm,hi=>by simp at hi
 | a :: N,h,0,nm,hi=>by
   obtain rfl:a=nm:=by simpa using hi
   have h':=(List.pairwise_cons.1 h).1
   unfold rank
   rw [List.filter_eq_nil_iff.2];rfl
   intro b hb
   rcases List.mem_cons.1 hb with rfl | hb
   ·simp
   ·simpa using nm_asymm (h' b hb)
 | a :: N,h,i+1,nm,hi=>by
   have h':=List.pairwise_cons.1 h
   have hi':N[i]? = some nm:=by simpa using hi
   have ih:=rank_at h'.2 i nm hi'
   unfold rank at ih ⊢
   rw [List.filter_cons,if_pos (by simpa using h'.1 nm (List.mem_of_getElem? hi'))]
   simp at ih ⊢
   omega
theorem rank_lt {N:List Nm} {nm:Nm} (h:nm∈N):rank N nm<N.length:=by
 unfold rank
 have h1:=List.length_filter_le (fun a=>decide (a<nm)) N
 rcases Nat.lt_or_ge (N.filter fun a=>decide (a<nm)).length N.length with h2 | h2
 ·omega
 ·have:=(List.length_filter_eq_length_iff.1 (Nat.le_antisymm h1 h2)) nm h
  exact absurd (of_decide_eq_true this) (nm_irrefl nm)
theorem rank_nonneg (N:List Nm) (nm:Nm):0≤rank N nm:=by unfold rank;omega
theorem rise_map {α:Type} {key:α→Nm} {l:List α} (h:Rise key l):Rise id (l.map key):=by
 unfold Rise at h ⊢
 rw [List.pairwise_map];exact h
theorem at_rank {α:Type} {key:α→Nm} {l:List α} (h:Rise key l) {a:α} (ha:a∈l):l[(rank (l.map key) (key a)).toNat]? = some a:=by
 obtain ⟨i,hi,rfl⟩:=List.getElem_of_mem ha
 rw [rank_at (rise_map h) i _ (by rw[List.getElem?_map,List.getElem?_eq_getElem hi];rfl)]
 simp [hi]
theorem rank_rise {N:List Nm} {a b:Nm} (ha:a∈N) (hab:a<b):rank N a<rank N b:=by
 unfold rank
 have h1:(N.filter fun c=>decide (c<a)).length=(N.countP fun c=>decide (c<a)):=by rw[List.countP_eq_length_filter]
 have h2:(N.filter fun c=>decide (c<b)).length=(N.countP fun c=>decide (c<b)):=by rw[List.countP_eq_length_filter]
 rw [h1,h2]
 suffices h:N.countP (fun c=>decide (c<a))<N.countP (fun c=>decide (c<b)) by omega
 induction N with
 | nil=>cases ha
 | cons c N ih =>
   have mono:N.countP (fun c=>decide (c<a))≤N.countP (fun c=>decide (c<b)):=List.countP_mono_left fun x _ hx=>by
    simp at hx ⊢;exact nm_trans hx hab
   rw [List.countP_cons,List.countP_cons]
   by_cases hc:c=a
   ·subst hc
    rw [if_neg (by simp),if_pos (by simpa using hab)];omega
   ·have ha':a∈N:=by rcases List.mem_cons.1 ha with rfl | h;exact absurd rfl hc;exact h
    have ih:=ih ha' (by rw[List.countP_eq_length_filter]) (by rw[List.countP_eq_length_filter])
    by_cases h1:c<a
    ·rw[if_pos (by simpa using h1),if_pos (by simpa using nm_trans h1 hab)];omega
    ·rw[if_neg (by simpa using h1)];omega
theorem rank_inj {N:List Nm} {a b:Nm} (ha:a∈N) (hb:b∈N) (h:rank N a=rank N b):a=b:=by
 refine nm_tri (fun h1=>?_) fun h1=>?_
 ·have:=rank_rise ha h1;omega
 ·have:=rank_rise hb h1;omega
open Go It
theorem nodup_snoc {α:Type} {l:List α} {a:α}:(l++[a]).Nodup ↔ l.Nodup∧a ∉ l:=by
 rw [List.nodup_append]
 constructor
 ·intro ⟨h1,_,h3⟩
  exact ⟨h1,fun h=>h3 a h a (by simp) rfl⟩
 ·intro ⟨h1,h2⟩
  exact ⟨h1,by simp,fun b hb c hc e=>h2 (by simp at hc;rw[← hc,← e];exact hb)⟩
def tips (x:Itm):List Tp:=if x.k=7 then [x.e0,x.e1] else if x.k=8 then [x.e0] else if x.k=9 then [x.e0] else []
structure Ok (L:List Itm):Prop where
 right:∀ x∈L,It.right x=true
 nums:((L.filter fun x=>isNum x.k).map (·.k)).Nodup
 names:(nmS L).Nodup
 few:(secs L).length≤24
 gnames:(nmG L).Nodup
 gends:((sigs L).map (·.e0)).Nodup
 gfew:(sigs L).length≤12
 ments:(ments L).Nodup
 told:∀ M x N,L=M++x :: N→∀ t∈tips x,t.n∈nmS M∧(endAt (ptOf M t.n) t.c).isSome=true
theorem right_kind {x:Itm} (h:It.right x=true):1≤x.k∧x.k≤9:=by
 have hp:=Sh.right_parse h
 unfold It.parse at hp
 split at hp
 ·cases hW : Ln.words (print x) with
  | nil=>rw[hW] at hp;cases hp
  | cons a t =>
    rw [hW] at hp
    have hp':parseK (kind a) t=some x:=hp
    have h1 : x.k = kind a:=by
     unfold parseK at hp'
     split at hp'
     ·split at hp'
      ·split at hp'
       ·cases hp';rfl
       ·cases hp'
      ·cases hp'
     ·split at hp'
      ·split at hp'
       ·split at hp'
        ·cases hp';rfl
        ·cases hp'
       ·cases hp'
      ·split at hp'
       ·rename_i hk
        split at hp'
        ·split at hp'
         ·cases hp';rfl
         ·cases hp'
        ·cases hp'
       ·split at hp'
        ·split at hp'
         ·split at hp'
          ·cases hp';rfl
          ·cases hp'
         ·cases hp'
        ·split at hp'
         ·split at hp'
          ·split at hp'
           ·cases hp';rfl
           ·cases hp'
          ·cases hp'
         ·cases hp'
    have h2:=parseK_kind _ _ _ hp'
    rcases kind_cases a with ⟨h3,_⟩ | ⟨h3,h4,_⟩
    ·exact absurd h3 h2
    ·omega
 ·cases hp
theorem kinds {x:Itm} (h:It.right x=true):(isNum x.k=true∧isS x=false∧isG x=false∧x.k≠7∧x.k≠8)∨(isNum x.k=false∧isS x=true∧isG x=false∧x.k≠7∧x.k≠8)∨(isNum x.k=false∧isS x=false∧isG x=false∧x.k=7) ∨
 (isNum x.k=false∧isS x=false∧isG x=false∧x.k=8)∨(isNum x.k=false∧isS x=false∧isG x=true∧x.k=9):=by
 obtain ⟨h1,h2⟩:=right_kind h
 unfold isS isG isNum isLen
 have:x.k=1∨x.k=2∨x.k=3∨x.k=4∨x.k=5∨x.k=6∨x.k=7∨x.k=8∨x.k=9:=by omega
 rcases this with h | h | h | h | h | h | h | h | h <;> rw[h] <;> decide
theorem tipErr_zero {M:List Itm} {used:List Tp} {t:Tp}:tipErr M used t=0 ↔ t.n∈nmS M∧(endAt (ptOf M t.n) t.c).isSome=true∧t ∉ used:=by
 unfold tipErr
 by_cases h1:t.n∈nmS M
 ·rw [if_neg (fun h=>h h1)]
  cases h2:endAt (ptOf M t.n) t.c with
  | none=>simp
  | some e =>
    rw [if_neg (by simp)]
    by_cases h3:t∈used <;> simp [h1,h3]
 ·rw[if_pos h1];simp [h1]
theorem secs_snoc (M:List Itm) (x:Itm):secs (M++[x])=secs M++(if isS x then [x] else []):=by simp [secs,List.filter_append,List.filter_cons]
theorem sigs_snoc (M:List Itm) (x:Itm):sigs (M++[x])=sigs M++(if isG x then [x] else []):=by simp [sigs,List.filter_append,List.filter_cons]
theorem ments_snoc (M:List Itm) (x:Itm):ments (M++[x])=ments M++ment x:=by simp [ments]
theorem nums_snoc (M:List Itm) (x:Itm):((M++[x]).filter fun x=>isNum x.k)=(M.filter fun x=>isNum x.k)++(if isNum x.k then [x] else []):=by simp [List.filter_append,List.filter_cons]
theorem any_nums {M:List Itm} {k:Int} (hk:isNum k=true):M.any (fun y=>decide (y.k=k))=true ↔ k∈(M.filter fun x=>isNum x.k).map (·.k):=by
 rw [List.any_eq_true,List.mem_map]
 constructor
 ·rintro ⟨y,hy,e⟩
  have e:=of_decide_eq_true e
  exact ⟨y,List.mem_filter.2 ⟨hy,by rw[e];exact hk⟩,e⟩
 ·rintro ⟨y,hy,e⟩
  exact ⟨y,(List.mem_filter.1 hy).1,by simpa using e⟩
theorem sigAt_none {M:List Itm} {t:Tp}:(sigAt M t).isSome=false ↔ t ∉ (sigs M).map (·.e0):=by
 unfold sigAt
 rw [Option.isSome_map,Option.isSome_eq_false_iff,Option.isNone_iff_eq_none,List.find?_eq_none]
 constructor
 ·intro h hm
  obtain ⟨y,hy,e⟩:=List.mem_map.1 hm
  exact absurd e (by simpa using h y hy)
 ·intro h y hy
  have:y.e0≠t:=fun e=>h (List.mem_map.2 ⟨y,hy,e⟩)
  simpa using this
theorem told_snoc {M:List Itm} {x:Itm} (h:∀ A y N,M=A++y :: N→∀ t∈tips y,t.n∈nmS A∧(endAt (ptOf A t.n) t.c).isSome=true) (hx:∀ t∈tips x,t.n∈nmS M∧(endAt (ptOf M t.n) t.c).isSome=true) :
 ∀ A y N,M++[x]=A++y :: N→∀ t∈tips y,t.n∈nmS A∧(endAt (ptOf A t.n) t.c).isSome=true:=fun A y N e=>by
 rcases List.eq_nil_or_concat N with rfl | ⟨N',z,rfl⟩
 ·obtain ⟨h1,h2⟩:=List.append_inj' e rfl
  cases h2
  subst h1
  exact hx
 ·have e':M++[x]=(A++y :: N')++[z]:=by rw[e];simp
  obtain ⟨h1,_⟩:=List.append_inj' e' rfl
  exact h A y N' h1
theorem Ok.snoc {M:List Itm} {x:Itm} (h:Ok M) (he:lineErr M x=0):Ok (M++[x]):=by
 unfold lineErr at he
 cases hr:It.right x with
 | false=>rw[hr,if_pos rfl] at he;cases he
 | true =>
   rw [hr,if_neg (by simp)] at he
   have hR:∀ y∈M++[x],It.right y=true:=fun y hy=>by
    rcases List.mem_append.1 hy with hy | hy
    ·exact h.right y hy
    ·obtain rfl:y=x:=by simpa using hy
     exact hr
   rcases kinds hr with ⟨k1,k2,k3,k4,k5⟩ | ⟨k1,k2,k3,k4,k5⟩ | ⟨k1,k2,k3,k4⟩ | ⟨k1,k2,k3,k4⟩ | ⟨k1,k2,k3,k4⟩
   ·rw [if_pos k1] at he
    have hn:¬ (M.any (fun y=>decide (y.k=x.k))=true):=fun hc=>by rw[if_pos hc] at he;cases he
    rw [any_nums k1] at hn
    have k6:x.k≠9:=fun e=>by simp [isG,e] at k3
    refine ⟨hR,?_,?_,?_,?_,?_,?_,?_,told_snoc h.told ?_⟩
    ·rw[nums_snoc,if_pos k1,List.map_append];exact nodup_snoc.2 ⟨h.nums,hn⟩
    ·simpa [nmS,secs_snoc,k2] using h.names
    ·simpa [secs_snoc,k2] using h.few
    ·simpa [nmG,sigs_snoc,k3] using h.gnames
    ·simpa [sigs_snoc,k3] using h.gends
    ·simpa [sigs_snoc,k3] using h.gfew
    ·rw[ments_snoc,ment,if_neg k4,if_neg k5,List.append_nil];exact h.ments
    ·intro t ht;rw[tips,if_neg k4,if_neg k5,if_neg k6] at ht;cases ht
   ·rw [if_neg (by simp [k1]),if_pos k2] at he
    have hn:x.name ∉ nmS M:=fun hc=>by rw[if_pos hc] at he;cases he
    rw [if_neg hn] at he
    have hl:(secs M).length≠24:=fun hc=>by rw[if_pos hc] at he;cases he
    have:=h.few
    have k6:x.k≠9:=fun e=>by simp [isG,e] at k3
    refine ⟨hR,?_,?_,?_,?_,?_,?_,?_,told_snoc h.told ?_⟩
    ·rw[nums_snoc,if_neg (by simp [k1]),List.append_nil];exact h.nums
    ·rw[nmS,secs_snoc,if_pos k2,List.map_append];exact nodup_snoc.2 ⟨h.names,hn⟩
    ·rw[secs_snoc,if_pos k2,List.length_append,List.length_singleton];omega
    ·simpa [nmG,sigs_snoc,k3] using h.gnames
    ·simpa [sigs_snoc,k3] using h.gends
    ·simpa [sigs_snoc,k3] using h.gfew
    ·rw[ments_snoc,ment,if_neg k4,if_neg k5,List.append_nil];exact h.ments
    ·intro t ht;rw[tips,if_neg k4,if_neg k5,if_neg k6] at ht;cases ht
   ·rw [if_neg (by simp [k1]),if_neg (by simp [k2]),if_pos k4] at he
    unfold joinErr at he
    have h0:tipErr M (Pl.ments M) x.e0=0:=Classical.byContradiction fun hc=>by rw[if_pos hc] at he;exact hc he
    rw [if_neg (fun hc=>hc h0)] at he
    rw [tipErr_zero] at h0 he
    refine ⟨hR,?_,?_,?_,?_,?_,?_,?_,told_snoc h.told ?_⟩
    ·rw[nums_snoc,if_neg (by simp [k1]),List.append_nil];exact h.nums
    ·simpa [nmS,secs_snoc,k2] using h.names
    ·simpa [secs_snoc,k2] using h.few
    ·simpa [nmG,sigs_snoc,k3] using h.gnames
    ·simpa [sigs_snoc,k3] using h.gends
    ·simpa [sigs_snoc,k3] using h.gfew
    ·rw [ments_snoc,ment,if_pos k4,show [x.e0,x.e1]=[x.e0]++[x.e1] from rfl,← List.append_assoc]
     exact nodup_snoc.2 ⟨nodup_snoc.2 ⟨h.ments,h0.2.2⟩,he.2.2⟩
    ·intro t ht
     rw [tips,if_pos k4] at ht
     rcases List.mem_cons.1 ht with rfl | ht
     ·exact ⟨h0.1,h0.2.1⟩
     ·obtain rfl:t=x.e1:=by simpa using ht
      exact ⟨he.1,he.2.1⟩
   ·have k7:x.k≠7:=by omega
    rw [if_neg (by simp [k1]),if_neg (by simp [k2]),if_neg k7,if_pos k4,tipErr_zero] at he
    refine ⟨hR,?_,?_,?_,?_,?_,?_,?_,told_snoc h.told ?_⟩
    ·rw[nums_snoc,if_neg (by simp [k1]),List.append_nil];exact h.nums
    ·simpa [nmS,secs_snoc,k2] using h.names
    ·simpa [secs_snoc,k2] using h.few
    ·simpa [nmG,sigs_snoc,k3] using h.gnames
    ·simpa [sigs_snoc,k3] using h.gends
    ·simpa [sigs_snoc,k3] using h.gfew
    ·rw[ments_snoc,ment,if_neg k7,if_pos k4];exact nodup_snoc.2 ⟨h.ments,he.2.2⟩
    ·intro t ht
     rw [tips,if_neg k7,if_pos k4] at ht
     obtain rfl:t=x.e0:=by simpa using ht
     exact ⟨he.1,he.2.1⟩
   ·have k7:x.k≠7:=by omega
    have k8:x.k≠8:=by omega
    rw [if_neg (by simp [k1]),if_neg (by simp [k2]),if_neg k7,if_neg k8] at he
    unfold sigErr at he
    have hn:x.name ∉ nmG M:=fun hc=>by rw[if_pos hc] at he;cases he
    rw [if_neg hn] at he
    have h0:tipErr M [] x.e0=0:=Classical.byContradiction fun hc=>by rw[if_pos hc] at he;exact hc he
    rw [if_neg (fun hc=>hc h0)] at he
    rw [tipErr_zero] at h0
    have hs:(sigAt M x.e0).isSome=false:=by
     cases hc:(sigAt M x.e0).isSome with
     | false=>rfl
     | true=>rw[hc,if_pos rfl] at he;cases he
    rw [hs,if_neg (by simp)] at he
    rw [sigAt_none] at hs
    have hl:(sigs M).length≠12:=fun hc=>by rw[if_pos hc] at he;cases he
    have:=h.gfew
    refine ⟨hR,?_,?_,?_,?_,?_,?_,?_,told_snoc h.told ?_⟩
    ·rw[nums_snoc,if_neg (by simp [k1]),List.append_nil];exact h.nums
    ·simpa [nmS,secs_snoc,k2] using h.names
    ·simpa [secs_snoc,k2] using h.few
    ·rw[nmG,sigs_snoc,if_pos k3,List.map_append];exact nodup_snoc.2 ⟨h.gnames,hn⟩
    ·rw[sigs_snoc,if_pos k3,List.map_append];exact nodup_snoc.2 ⟨h.gends,hs⟩
    ·rw[sigs_snoc,if_pos k3,List.length_append,List.length_singleton];omega
    ·rw[ments_snoc,ment,if_neg k7,if_neg k8,List.append_nil];exact h.ments
    ·intro t ht
     rw [tips,if_neg k7,if_neg k8,if_pos k4] at ht
     obtain rfl:t=x.e0:=by simpa using ht
     exact ⟨h0.1,h0.2.1⟩
theorem Ok.init {M:List Itm} {x:Itm} (h:Ok (M++[x])):Ok M∧lineErr M x=0:=by
 have hr:It.right x=true:=h.right x (by simp)
 have hM:Ok M:=by
  refine ⟨fun y hy=>h.right y (by simp [hy]),?_,?_,?_,?_,?_,?_,?_,fun A y N e=>?_⟩
  ·have:=h.nums;rw[nums_snoc,List.map_append] at this;exact (List.nodup_append.1 this).1
  ·have:=h.names;rw[nmS,secs_snoc,List.map_append] at this;exact (List.nodup_append.1 this).1
  ·have:=h.few;rw[secs_snoc,List.length_append] at this;omega
  ·have:=h.gnames;rw[nmG,sigs_snoc,List.map_append] at this;exact (List.nodup_append.1 this).1
  ·have:=h.gends;rw[sigs_snoc,List.map_append] at this;exact (List.nodup_append.1 this).1
  ·have:=h.gfew;rw[sigs_snoc,List.length_append] at this;omega
  ·have:=h.ments;rw[ments_snoc] at this;exact (List.nodup_append.1 this).1
  ·exact h.told A y (N++[x]) (by rw[e];simp)
 refine ⟨hM,?_⟩
 have told:=h.told M x [] rfl
 unfold lineErr
 rw [hr,if_neg (by simp)]
 rcases kinds hr with ⟨k1,k2,k3,k4,k5⟩ | ⟨k1,k2,k3,k4,k5⟩ | ⟨k1,k2,k3,k4⟩ | ⟨k1,k2,k3,k4⟩ | ⟨k1,k2,k3,k4⟩
 ·rw [if_pos k1]
  have hn:=h.nums
  rw [nums_snoc,if_pos k1,List.map_append] at hn
  have:=(nodup_snoc.1 hn).2
  rw [← any_nums k1] at this
  rw [if_neg this]
 ·rw [if_neg (by simp [k1]),if_pos k2]
  have hn:=h.names
  rw [nmS,secs_snoc,if_pos k2,List.map_append] at hn
  have hl:=h.few
  rw [secs_snoc,if_pos k2,List.length_append,List.length_singleton] at hl
  rw [if_neg (show x.name ∉ nmS M from (nodup_snoc.1 hn).2),if_neg (by omega)]
 ·rw [if_neg (by simp [k1]),if_neg (by simp [k2]),if_pos k4]
  have hm:=h.ments
  rw [ments_snoc,ment,if_pos k4,show [x.e0,x.e1]=[x.e0]++[x.e1] from rfl,← List.append_assoc] at hm
  have hm2:=nodup_snoc.1 hm
  rw [tips,if_pos k4] at told
  have t0:=told x.e0 (by simp)
  have t1:=told x.e1 (by simp)
  unfold joinErr
  rw [tipErr_zero.2 ⟨t0.1,t0.2,(nodup_snoc.1 hm2.1).2⟩,if_neg (by simp)]
  exact tipErr_zero.2 ⟨t1.1,t1.2,hm2.2⟩
 ·have k7:x.k≠7:=by omega
  rw [if_neg (by simp [k1]),if_neg (by simp [k2]),if_neg k7,if_pos k4]
  have hm:=h.ments
  rw [ments_snoc,ment,if_neg k7,if_pos k4] at hm
  rw [tips,if_neg k7,if_pos k4] at told
  have t0:=told x.e0 (by simp)
  exact tipErr_zero.2 ⟨t0.1,t0.2,(nodup_snoc.1 hm).2⟩
 ·have k7:x.k≠7:=by omega
  have k8:x.k≠8:=by omega
  rw [if_neg (by simp [k1]),if_neg (by simp [k2]),if_neg k7,if_neg k8]
  have hn:=h.gnames
  rw [nmG,sigs_snoc,if_pos k3,List.map_append] at hn
  have hs:=h.gends
  rw [sigs_snoc,if_pos k3,List.map_append] at hs
  have hl:=h.gfew
  rw [sigs_snoc,if_pos k3,List.length_append,List.length_singleton] at hl
  rw [tips,if_neg k7,if_neg k8,if_pos k4] at told
  have t0:=told x.e0 (by simp)
  have hs':(sigAt M x.e0).isSome=false:=sigAt_none.2 (nodup_snoc.1 hs).2
  unfold sigErr
  rw [if_neg (show x.name ∉ nmG M from (nodup_snoc.1 hn).2),tipErr_zero.2 ⟨t0.1,t0.2,by simp⟩,if_neg (by simp),hs',if_neg (by simp),if_neg (by omega)]
theorem Ok.nil:Ok []:=by
 refine ⟨by simp,by simp,by simp [nmS,secs],by simp [secs],by simp [nmG,sigs],by simp [sigs],by simp [sigs],by simp [Pl.ments],fun A y N e=>by simp at e⟩
theorem firstE_none {f:Nat→Int} {n:Nat}:firstE f n=none ↔ ∀ i<n,f i=0:=by
 unfold firstE
 rw [List.find?_range_eq_none]
 simp
theorem firstE_some {f:Nat→Int} {n i:Nat}:firstE f n=some i ↔ i<n∧f i≠0∧∀ j<i,f j=0:=by
 unfold firstE
 rw [List.find?_range_eq_some]
 constructor
 ·rintro ⟨h1,h2,h3⟩
  exact ⟨by simpa using h2,by simpa using h1,fun j hj=>by simpa using h3 j hj⟩
 ·rintro ⟨h1,h2,h3⟩
  exact ⟨by simpa using h2,by simpa using h1,fun j hj=>by simpa using h3 j hj⟩
theorem errAt_left {M N:List Itm} {i:Nat} (h:i<M.length):errAt (M++N) i=errAt M i:=by
 unfold errAt
 rw [List.getElem?_append_left h,List.take_append_of_le_length (by omega)]
theorem errAt_snoc (M:List Itm) (x:Itm):errAt (M++[x]) M.length=lineErr M x:=by
 unfold errAt
 rw [List.getElem?_append_right (Nat.le_refl _),Nat.sub_self,List.take_append_of_le_length (Nat.le_refl _),List.take_length]
 rfl
theorem ok_iff (L:List Itm):(∀ i<L.length,errAt L i=0) ↔ Ok L:=by
 have : ∀ n,∀ L:List Itm,L.length=n→((∀ i<L.length,errAt L i=0) ↔ Ok L):=by
  intro n
  induction n with
  | zero=>intro L hL;obtain rfl:=List.eq_nil_of_length_eq_zero hL;exact ⟨fun _=>Ok.nil,fun _ i hi=>absurd hi (by simp)⟩
  | succ n ih =>
    intro L hL
    rcases List.eq_nil_or_concat L with rfl | ⟨M,x,rfl⟩
    ·cases hL
    ·rw [List.concat_eq_append] at hL ⊢
     have hM:M.length=n:=by simpa using hL
     constructor
     ·intro h
      have h1:Ok M:=(ih M hM).1 fun i hi=>by rw[← errAt_left (N:=[x]) hi];exact h i (by simp;omega)
      have h2:=h M.length (by simp)
      rw [errAt_snoc] at h2
      exact h1.snoc h2
     ·intro h i hi
      obtain ⟨h1,h2⟩:=h.init
      by_cases hi':i<M.length
      ·rw[errAt_left hi'];exact (ih M hM).2 h1 i hi'
      ·obtain rfl:i=M.length:=by simp at hi;omega
       rw [errAt_snoc];exact h2
 exact this _ L rfl
def Shut (L:List Itm):Prop:=∀ x∈L,lackErr L x=0
theorem build_ok {L:List Itm} (h:Ok L) (h2:Shut L):build L=(fin L,0,0):=by
 unfold build
 rw [firstE_none.2 ((ok_iff L).2 h)]
 simp only
 rw [firstE_none.2 fun i hi=>by unfold lackAt;rw[List.getElem?_eq_getElem hi];exact h2 _ (List.getElem_mem hi)]
theorem build_zero {L:List Itm} (h:(build L).2.1=0):Ok L∧Shut L∧build L=(fin L,0,0):=by
 unfold build at h
 cases h1:firstE (errAt L) L.length with
 | some i =>
   rw [h1] at h
   exact absurd h (firstE_some.1 h1).2.1
 | none =>
   rw [h1] at h
   simp only at h
   have hok:=(ok_iff L).1 (firstE_none.1 h1)
   cases h2:firstE (lackAt L) L.length with
   | some i=>rw[h2] at h;exact absurd h (firstE_some.1 h2).2.1
   | none =>
     have hs:Shut L:=fun x hx=>by
      obtain ⟨i,hi,rfl⟩:=List.getElem_of_mem hx
      have:=firstE_none.1 h2 i hi
      unfold lackAt at this
      rwa [List.getElem?_eq_getElem hi] at this
     exact ⟨hok,hs,build_ok hok hs⟩
def swap (x:Itm):Itm:={ x with e0:=x.e1,e1:=x.e0 }
theorem link_none {t:Tp} {x:Itm}:link t x=none ↔ t ∉ ment x:=by
 unfold link ment
 by_cases h7:x.k=7
 ·rw [if_pos h7,if_pos h7]
  by_cases h0:x.e0=t
  ·rw[if_pos h0];simp [h0]
  ·rw [if_neg h0]
   by_cases h1:x.e1=t
   ·rw[if_pos h1];simp [h1]
   ·rw[if_neg h1];simp [Ne.symm h0,Ne.symm h1]
 ·rw [if_neg h7,if_neg h7]
  by_cases h8:x.k=8
  ·rw [if_pos h8]
   by_cases h0:x.e0=t
   ·rw[if_pos ⟨h8,h0⟩];simp [h0]
   ·rw[if_neg fun h=>h0 h.2];simp [Ne.symm h0]
  ·rw[if_neg fun h=>h8 h.1,if_neg h8];simp
theorem partner_none {M:List Itm} {t:Tp}:partner M t=none ↔ t ∉ ments M:=by
 unfold partner ments
 rw [List.findSome?_eq_none_iff]
 constructor
 ·intro h hm
  obtain ⟨x,hx,ht⟩:=List.mem_flatMap.1 hm
  exact link_none.1 (h x hx) ht
 ·intro h x hx
  exact link_none.2 fun ht=>h (List.mem_flatMap.2 ⟨x,hx,ht⟩)
theorem partner_mem:∀ {M:List Itm} (_:(ments M).Nodup) {x:Itm} (_:x∈M) {t:Tp} (_:t∈ment x),partner M t=link t x
 | y :: M,hn,x,hx,t,ht=>by
   have hn':(ment y++ments M).Nodup:=by simpa [ments] using hn
   have hd:=List.nodup_append.1 hn'
   unfold partner
   rw [List.findSome?_cons]
   rcases List.mem_cons.1 hx with rfl | hx
   ·cases hl:link t x with
    | none=>exact absurd ht (link_none.1 hl)
    | some v=>rfl
   ·have hy:t ∉ ment y:=fun h=>hd.2.2 t h t (List.mem_flatMap.2 ⟨x,hx,ht⟩) rfl
    rw [link_none.2 hy]
    exact partner_mem hd.2.1 hx ht
theorem partner_some {M:List Itm} {t:Tp} {v:Option Tp} (h:partner M t=some v):∃ x∈M,link t x=some v∧t∈ment x:=by
 obtain ⟨x,hx,hl⟩:=List.exists_of_findSome?_eq_some h
 refine ⟨x,hx,hl,Classical.byContradiction fun hc=>?_⟩
 rw [link_none.2 hc] at hl;cases hl
theorem ment_nodup {M:List Itm} (hn:(ments M).Nodup) {x:Itm} (hx:x∈M):(ment x).Nodup:=by
 induction M with
 | nil=>cases hx
 | cons y M ih =>
   have hn':(ment y++ments M).Nodup:=by simpa [ments] using hn
   rcases List.mem_cons.1 hx with rfl | hx
   ·exact (List.nodup_append.1 hn').1
   ·exact ih (List.nodup_append.1 hn').2.1 hx
theorem link_joined {t u:Tp} {x:Itm} (h:link t x=some (some u)):x.k=7∧((x.e0=t∧x.e1=u)∨(x.e1=t∧x.e0=u)):=by
 unfold link at h
 split at h
 ·rename_i h7
  refine ⟨h7,?_⟩
  split at h
  ·rename_i h0;cases h;exact .inl ⟨h0,rfl⟩
  ·split at h
   ·rename_i h1;cases h;exact .inr ⟨h1,rfl⟩
   ·cases h
 ·split at h <;> cases h
theorem ment7 {x:Itm} (h:x.k=7):ment x=[x.e0,x.e1]:=by rw[ment,if_pos h]
theorem ends_ne {M:List Itm} (hn:(ments M).Nodup) {x:Itm} (hx:x∈M) (h7:x.k=7):x.e0≠x.e1:=by
 have:=ment_nodup hn hx
 rw [ment7 h7] at this
 simp at this
 exact this
theorem partner_sym {M:List Itm} (hn:(ments M).Nodup) {t u:Tp} (h:partner M t=some (some u)):partner M u=some (some t)∧t≠u:=by
 obtain ⟨x,hx,hl,_⟩:=partner_some h
 obtain ⟨h7,ho⟩:=link_joined hl
 have hne:=ends_ne hn hx h7
 rcases ho with ⟨rfl,rfl⟩ | ⟨rfl,rfl⟩
 ·refine ⟨?_,hne⟩
  rw [partner_mem hn hx (by rw[ment7 h7];simp),link,if_pos h7,if_neg hne,if_pos rfl]
 ·refine ⟨?_,hne.symm⟩
  rw [partner_mem hn hx (by rw[ment7 h7];simp),link,if_pos h7,if_pos rfl]
theorem mem_secs {M:List Itm} {x:Itm}:x∈secs M ↔ x∈M∧isS x=true:=List.mem_filter
theorem mem_sigs {M:List Itm} {x:Itm}:x∈sigs M ↔ x∈M∧isG x=true:=List.mem_filter
theorem mem_nmS {M:List Itm} {nm:Nm}:nm∈nmS M ↔ ∃ x∈secs M,x.name=nm:=List.mem_map
theorem uniq {α:Type} {f:α→Nm}:∀ {l:List α} (_:(l.map f).Nodup) {a b:α} (_:a∈l) (_:b∈l) (_:f a=f b),a=b
 | c :: l,hn,a,b,ha,hb,e=>by
   rw [List.map_cons,List.nodup_cons] at hn
   rcases List.mem_cons.1 ha with rfl | ha'
   ·rcases List.mem_cons.1 hb with rfl | hb'
    ·rfl
    ·exact absurd (e ▸ List.mem_map_of_mem hb') hn.1
   ·rcases List.mem_cons.1 hb with rfl | hb'
    ·exact absurd (e ▸ List.mem_map_of_mem ha') hn.1
    ·exact uniq hn.2 ha' hb' e
theorem uniqT {α β:Type} {f:α→β}:∀ {l:List α} (_:(l.map f).Nodup) {a b:α} (_:a∈l) (_:b∈l) (_:f a=f b),a=b
 | c :: l,hn,a,b,ha,hb,e=>by
   rw [List.map_cons,List.nodup_cons] at hn
   rcases List.mem_cons.1 ha with rfl | ha'
   ·rcases List.mem_cons.1 hb with rfl | hb'
    ·rfl
    ·exact absurd (e ▸ List.mem_map_of_mem hb') hn.1
   ·rcases List.mem_cons.1 hb with rfl | hb'
    ·exact absurd (e ▸ List.mem_map_of_mem ha') hn.1
    ·exact uniqT hn.2 ha' hb' e
theorem find_uniq {α β:Type} [DecidableEq β] {f:α→β} {l:List α} (hn:(l.map f).Nodup) {a:α} (ha:a∈l):(l.find? fun x=>decide (f x=f a))=some a:=by
 cases h:l.find? fun x=>decide (f x=f a) with
 | none=>exact absurd (decide_eq_true (rfl:f a=f a)) (List.find?_eq_none.1 h a ha)
 | some b =>
   have h1:=List.find?_some h
   have h2:=List.mem_of_find?_eq_some h
   rw [uniqT hn h2 ha (of_decide_eq_true h1)]
theorem ptOf_eq {M:List Itm} (hn:(nmS M).Nodup) {x:Itm} (hx:x∈secs M):ptOf M x.name=isPt x:=by
 unfold ptOf
 rw [find_uniq (f:=Itm.name) hn hx];rfl
theorem sigAt_eq {M:List Itm} (hn:((sigs M).map (·.e0)).Nodup) {x:Itm} (hx:x∈sigs M):sigAt M x.e0=some x.name:=by
 unfold sigAt
 rw [find_uniq (f:=Itm.e0) hn hx];rfl
theorem sigAt_some {M:List Itm} {t:Tp} {g:Nm} (h:sigAt M t=some g):∃ x∈sigs M,x.e0=t∧x.name=g:=by
 unfold sigAt at h
 rw [Option.map_eq_some_iff] at h
 obtain ⟨x,hx,hg⟩:=h
 exact ⟨x,List.mem_of_find?_eq_some hx,by simpa using List.find?_some hx,hg⟩
def TipG (t:Tp):Prop:=Fig.nameB t.n=true∧It.letter t.c=true
theorem tipG_of {l:List UInt8} (h:tipOk l=true):TipG (It.tip l):=by
 rw [It.tip,if_pos h]
 simp only [tipOk,Bool.and_eq_true,decide_eq_true_eq] at h
 obtain ⟨⟨⟨h3,_⟩,hl⟩,hn⟩:=h
 refine ⟨hn,?_⟩
 rw [List.getElem?_eq_getElem (by omega)] at hl ⊢
 exact hl
theorem right_parseK {x:Itm} (h:It.right x=true):∃ T,parseK x.k T=some x:=by
 have hp:=Sh.right_parse h
 unfold It.parse at hp
 split at hp
 ·cases hW:Ln.words (print x) with
  | nil=>rw[hW] at hp;cases hp
  | cons a t =>
    rw [hW] at hp
    have hp':parseK (kind a) t=some x:=hp
    suffices h1:x.k=kind a by exact ⟨t,by rw[h1];exact hp'⟩
    have:∀ k:Int,parseK k t=some x→x.k=k:=by
     intro k hk
     unfold parseK at hk
     repeat' split at hk
     all_goals first | (cases hk;rfl) | cases hk
    exact this _ hp'
 ·cases hp
theorem right_sec {x:Itm} (h:It.right x=true) (hs:isS x=true):x=⟨x.k,x.name,x.n,Tp.zero,Tp.zero⟩∧Fig.nameB x.name=true∧1≤x.n:=by
 have hk1:isNum x.k=false:=by rcases kinds h with k | k | k | k | k <;> simp_all
 have hk2:isLen x.k=true:=hs
 obtain ⟨T,hT⟩:=right_parseK h
 unfold parseK at hT
 rw [if_neg (by simp [hk1]),if_pos hk2] at hT
 split at hT
 ·split at hT
  ·rename_i hc
   simp only [Bool.and_eq_true,decide_eq_true_iff] at hc
   have e:=Option.some.inj hT
   rw [← e]
   exact ⟨rfl,hc.1.1,by show 1≤Fig.parseN _ _;omega⟩
  ·cases hT
 ·cases hT
theorem right_join {x:Itm} (h:It.right x=true) (h7:x.k=7):x=⟨7,[],0,x.e0,x.e1⟩∧TipG x.e0∧TipG x.e1:=by
 obtain ⟨T,hT⟩:=right_parseK h
 rw [h7] at hT
 unfold parseK at hT
 rw [if_neg (by decide),if_neg (by decide),if_pos rfl] at hT
 split at hT
 ·split at hT
  ·rename_i hc
   rw [Bool.and_eq_true] at hc
   have e:=Option.some.inj hT
   rw [← e]
   exact ⟨rfl,tipG_of hc.1,tipG_of hc.2⟩
  ·cases hT
 ·cases hT
theorem right_stop {x:Itm} (h:It.right x=true) (h8:x.k=8):x=⟨8,[],0,x.e0,Tp.zero⟩∧TipG x.e0:=by
 obtain ⟨T,hT⟩:=right_parseK h
 rw [h8] at hT
 unfold parseK at hT
 rw [if_neg (by decide),if_neg (by decide),if_neg (by decide),if_pos rfl] at hT
 split at hT
 ·split at hT
  ·rename_i hc
   have e:=Option.some.inj hT
   rw [← e]
   exact ⟨rfl,tipG_of hc⟩
  ·cases hT
 ·cases hT
theorem right_sig {x:Itm} (h:It.right x=true) (h9:x.k=9):x=⟨9,x.name,0,x.e0,Tp.zero⟩∧Fig.nameB x.name=true∧TipG x.e0:=by
 obtain ⟨T,hT⟩:=right_parseK h
 rw [h9] at hT
 unfold parseK at hT
 rw [if_neg (by decide),if_neg (by decide),if_neg (by decide),if_neg (by decide),if_pos rfl] at hT
 split at hT
 ·split at hT
  ·rename_i hc
   rw [Bool.and_eq_true] at hc
   have e:=Option.some.inj hT
   rw [← e]
   exact ⟨rfl,hc.1,tipG_of hc.2⟩
  ·cases hT
 ·cases hT
theorem letter_inj {pt:Bool} {e f:Nat} (he:e<nEnds pt) (hf:f<nEnds pt) (h:letter pt e=letter pt f):e=f:=by
 cases pt
 ·have:e=0∨e=1:=by simp [nEnds] at he;omega
  have:f=0∨f=1:=by simp [nEnds] at hf;omega
  rcases ‹e=0∨e=1› with rfl | rfl <;> rcases ‹f=0∨f=1› with rfl | rfl <;> first | rfl | exact absurd h (by decide)
 ·have:e=0∨e=1∨e=2:=by simp [nEnds] at he;omega
  have:f=0∨f=1∨f=2:=by simp [nEnds] at hf;omega
  rcases ‹e=0∨e=1∨e=2› with rfl | rfl | rfl <;> rcases ‹f=0∨f=1∨f=2› with rfl | rfl | rfl <;> first | rfl | exact absurd h (by decide)
theorem endAt_letter {pt:Bool} {e:Nat} (he:e<nEnds pt):endAt pt (letter pt e)=some e:=by
 cases pt
 ·have:e=0∨e=1:=by simp [nEnds] at he;omega
  rcases this with rfl | rfl <;> decide
 ·have:e=0∨e=1∨e=2:=by simp [nEnds] at he;omega
  rcases this with rfl | rfl | rfl <;> decide
theorem letter_endAt {pt:Bool} {c:UInt8} {e:Nat} (h:endAt pt c=some e):letter pt e=c∧e<nEnds pt:=by
 unfold endAt at h
 split at h
 ·rename_i h0;cases h;exact ⟨h0,by cases pt <;> decide⟩
 ·split at h
  ·rename_i h1;cases h;exact ⟨h1,by cases pt <;> decide⟩
  ·split at h
   ·rename_i h2;cases h;exact ⟨h2.2,by rw[h2.1];decide⟩
   ·cases h
theorem told_all {L:List Itm} (hL:Ok L) {x:Itm} (hx:x∈L) {t:Tp} (ht:t∈tips x):∃ y∈secs L,∃ e,e<nEnds (isPt y)∧t=tip y e:=by
 obtain ⟨M,N,rfl⟩:=List.append_of_mem hx
 obtain ⟨h1,h2⟩:=hL.told M x N rfl t ht
 obtain ⟨y,hy,hn⟩:=mem_nmS.1 h1
 have hsub:secs (M++x :: N)=secs M++secs (x :: N):=by simp [secs,List.filter_append]
 have hM:(nmS M).Nodup:=by
  have:=hL.names
  rw [nmS,hsub,List.map_append] at this
  exact (List.nodup_append.1 this).1
 rw [← hn,ptOf_eq hM hy] at h2
 obtain ⟨e,he⟩:=Option.isSome_iff_exists.1 h2
 obtain ⟨h3,h4⟩:=letter_endAt he
 exact ⟨y,by rw[hsub];exact List.mem_append_left _ hy,e,h4,by cases t;simp at hn h3;simp [tip,hn,h3]⟩
theorem ment_tips {x:Itm} {t:Tp} (h:t∈ment x):t∈tips x:=by
 unfold ment at h
 unfold tips
 split at h
 ·rename_i h7;rw[if_pos h7];exact h
 ·rename_i h7
  split at h
  ·rename_i h8;rw[if_neg h7,if_pos h8];exact h
  ·cases h
theorem ments_told {L:List Itm} (hL:Ok L) {t:Tp} (ht:t∈ments L):∃ y∈secs L,∃ e,e<nEnds (isPt y)∧t=tip y e:=by
 obtain ⟨x,hx,h⟩:=List.mem_flatMap.1 ht
 exact told_all hL hx (ment_tips h)
theorem shut_sec {L:List Itm} (hS:Shut L) {x:Itm} (hx:x∈secs L) {e:Nat} (he:e<nEnds (isPt x)):partner L (tip x e)≠none:=fun hc=>by
 have:=hS x (mem_secs.1 hx).1
 unfold lackErr at this
 rw [if_pos (mem_secs.1 hx).2,if_pos] at this
 ·cases this
 ·rw [List.any_eq_true]
  exact ⟨e,List.mem_range.2 he,by simpa using hc⟩
theorem tip_at {L:List Itm} (hL:Ok L) {x:Itm} (hx:x∈secs L) {e:Nat} (he:e<nEnds (isPt x)):endAt (ptOf L (tip x e).n) (tip x e).c=some e:=by
 show endAt (ptOf L x.name) (letter (isPt x) e)=some e
 rw [ptOf_eq hL.names hx]
 exact endAt_letter he
def SS (L:List Itm):List Itm:=isort Itm.name (secs L)
def GG (L:List Itm):List Itm:=isort Itm.name (sigs L)
theorem SS_rise {L:List Itm} (hL:Ok L):Rise Itm.name (SS L):=isort_rise _ _ hL.names
theorem GG_rise {L:List Itm} (hL:Ok L):Rise Itm.name (GG L):=isort_rise _ _ hL.gnames
theorem SS_mem {L:List Itm} {x:Itm}:x∈SS L ↔ x∈secs L:=isort_mem _
theorem GG_mem {L:List Itm} {x:Itm}:x∈GG L ↔ x∈sigs L:=isort_mem _
theorem SS_perm (L:List Itm):(SS L).Perm (secs L):=isort_perm _ _
theorem GG_perm (L:List Itm):(GG L).Perm (sigs L):=isort_perm _ _
def plS (L:List Itm) (x:Itm):Nat:=(rank (nmS L) x.name).toNat
def plG (L:List Itm) (x:Itm):Nat:=(rank (nmG L) x.name).toNat
theorem SS_at {L:List Itm} (hL:Ok L) {x:Itm} (hx:x∈secs L):(SS L)[plS L x]? = some x:=by
 have:=at_rank (SS_rise hL) (SS_mem.2 hx)
 rwa [rank_perm ((SS_perm L).map Itm.name)] at this
theorem GG_at {L:List Itm} (hL:Ok L) {x:Itm} (hx:x∈sigs L):(GG L)[plG L x]? = some x:=by
 have:=at_rank (GG_rise hL) (GG_mem.2 hx)
 rwa [rank_perm ((GG_perm L).map Itm.name)] at this
theorem SS_pl {L:List Itm} (hL:Ok L) {x:Itm} {s:Nat} (h:(SS L)[s]? = some x):x∈secs L∧rank (nmS L) x.name=s:=by
 have hx:=SS_mem.1 (List.mem_of_getElem? h)
 refine ⟨hx,?_⟩
 rw [show nmS L=(secs L).map Itm.name from rfl,← rank_perm ((SS_perm L).map Itm.name)]
 exact rank_at (rise_map (SS_rise hL)) s _ (by rw[List.getElem?_map,h];rfl)
abbrev fS (L:List Itm):Itm→Sec:=secW (rank (nmS L)) (rank (nmG L)) L
theorem fin_secs (L:List Itm):(fin L).secs=(SS L).map (fS L):=rfl
theorem fin_sigs (L:List Itm):(fin L).sigs=(GG L).map (sigW (rank (nmS L)) L):=rfl
theorem get_fS {L:List Itm} {x:Itm} {e:Nat} (he:e<nEnds (isPt x)):(fS L x).get e=enW (rank (nmS L)) (rank (nmG L)) L (tip x e):=by
 unfold Sec.get
 by_cases h0:e=0
 ·rw[if_pos h0,h0];rfl
 ·rw [if_neg h0]
  by_cases h1:e=1
  ·rw[if_pos h1,h1];rfl
  ·rw [if_neg h1]
   have hp:isPt x=true:=by
    cases hp:isPt x with
    | true=>rfl
    | false=>rw[hp] at he;simp [nEnds] at he;omega
   have h2:e=2:=by rw[hp] at he;simp [nEnds] at he;omega
   rw [h2]
   show (if isPt x=true then enW _ _ L (tip x 2) else stop)=_
   rw [if_pos hp]
theorem mem_endsP {L:List Itm} {a:Nat × Nat}:a∈endsP (fin L) ↔ ∃ x,(SS L)[a.1]? = some x∧a.2<nEnds (isPt x):=by
 obtain ⟨s,e⟩:=a
 unfold endsP
 simp only [List.mem_flatMap,List.mem_range,List.mem_map,fin_secs,List.getElem?_map,List.length_map]
 constructor
 ·rintro ⟨s',hs,e',he,h⟩
  cases h
  rw [List.getElem?_eq_getElem hs] at he
  exact ⟨_,List.getElem?_eq_getElem hs,he⟩
 ·rintro ⟨x,hx,he⟩
  have hs:=(List.getElem?_eq_some_iff.1 hx).1
  refine ⟨s,hs,e,?_,rfl⟩
  rw [hx];exact he
theorem tipP_eq {L:List Itm} {s e:Nat} {x:Itm} (h:(SS L)[s]? = some x):tipP (fin L) s e=tip x e:=by
 unfold tipP
 rw [fin_secs,List.getElem?_map,h];rfl
theorem enP_eq {L:List Itm} {s e:Nat} {x:Itm} (h:(SS L)[s]? = some x) (he:e<nEnds (isPt x)):enP (fin L) (s,e)=enW (rank (nmS L)) (rank (nmG L)) L (tip x e):=by
 unfold enP
 rw [fin_secs,List.getElem?_map,h]
 exact get_fS he
abbrev ta (L:List Itm) (a:Nat × Nat):Tp:=tipP (fin L) a.1 a.2
theorem ta_told {L:List Itm} (hL:Ok L) {y:Itm} (hy:y∈secs L) {e:Nat} (he:e<nEnds (isPt y)):(plS L y,e)∈endsP (fin L)∧ta L (plS L y,e)=tip y e :=
 ⟨mem_endsP.2 ⟨y,SS_at hL hy,he⟩,tipP_eq (SS_at hL hy)⟩
theorem ta_ments {L:List Itm} (hL:Ok L) {t:Tp} (ht:t∈ments L):∃ a∈endsP (fin L),ta L a=t:=by
 obtain ⟨y,hy,e,he,rfl⟩:=ments_told hL ht
 exact ⟨_,ta_told hL hy he⟩
theorem ta_partner {L:List Itm} (hL:Ok L) (hS:Shut L) {a:Nat × Nat} (ha:a∈endsP (fin L)):partner L (ta L a)≠none:=by
 obtain ⟨x,hx,he⟩:=mem_endsP.1 ha
 rw [ta,tipP_eq hx]
 exact shut_sec hS (SS_pl hL hx).1 he
theorem partner_ments {L:List Itm} {t:Tp} (h:partner L t≠none):t∈ments L:=Classical.byContradiction fun hc=>h (partner_none.2 hc)
theorem en_stop {L:List Itm} {a:Nat × Nat} (ha:a∈endsP (fin L)) (h:partner L (ta L a)=some none):(enP (fin L) a).goes = -1∧(enP (fin L) a).at_=0:=by
 obtain ⟨x,hx,he⟩:=mem_endsP.1 ha
 obtain ⟨s,e⟩:=a
 rw [ta,tipP_eq hx] at h
 rw [enP_eq hx he]
 simp [enW,h]
theorem en_join {L:List Itm} (hL:Ok L) {a b:Nat × Nat} (ha:a∈endsP (fin L)) (hb:b∈endsP (fin L)) (h:partner L (ta L a)=some (some (ta L b))):(enP (fin L) a).goes=b.1∧(enP (fin L) a).at_=b.2:=by
 obtain ⟨x,hx,he⟩:=mem_endsP.1 ha
 obtain ⟨y,hy,hf⟩:=mem_endsP.1 hb
 obtain ⟨s,e⟩:=a
 obtain ⟨s',e'⟩:=b
 rw [ta,tipP_eq hx,ta,tipP_eq hy] at h
 rw [enP_eq hx he]
 obtain ⟨hy',r2⟩:=SS_pl hL hy
 simp only [enW,h]
 refine ⟨r2,?_⟩
 rw [tip_at hL hy' hf];rfl
section
variable {L : List Itm} (hL : Ok L) (hS : Shut L)
include hL hS
def JJ (L:List Itm):List Itm:=(endsP (fin L)).filterMap (joinP (fin L))
def BB (L:List Itm):List Itm:=(endsP (fin L)).filterMap (stopP (fin L))
end
open Go It
theorem num_facts {x:Itm} (h:isNum x.k=true):isS x=false∧isG x=false∧x.k≠7∧x.k≠8∧x.k≠9:=by
 unfold isNum at h
 have:=of_decide_eq_true h
 unfold isS isG isLen
 exact ⟨decide_eq_false (by omega),decide_eq_false (by omega),by omega,by omega,by omega⟩
theorem sec_facts {x:Itm} (h:isS x=true):isNum x.k=false∧isG x=false∧x.k≠7∧x.k≠8∧x.k≠9:=by
 unfold isS isLen at h
 have:=of_decide_eq_true h
 unfold isNum isG
 exact ⟨decide_eq_false (by omega),decide_eq_false (by omega),by omega,by omega,by omega⟩
theorem sig_facts {x:Itm} (h:isG x=true):isNum x.k=false∧isS x=false∧x.k≠7∧x.k≠8∧x.k=9:=by
 unfold isG at h
 have:=of_decide_eq_true h
 unfold isNum isS isLen
 exact ⟨decide_eq_false (by omega),decide_eq_false (by omega),by omega,by omega,by omega⟩
theorem end_facts {x:Itm} (h:x.k=7∨x.k=8):isNum x.k=false∧isS x=false∧isG x=false:=by
 unfold isNum isS isLen isG
 exact ⟨decide_eq_false (by omega),decide_eq_false (by omega),decide_eq_false (by omega)⟩
def CC (L:List Itm):List Itm:=JJ L++BB L++GG L
section
variable {L : List Itm} (hL : Ok L) (hS : Shut L)
include hL
theorem secs_at {i:Nat} {s:Sec} (h:(fin L).secs[i]? = some s):∃ x,(SS L)[i]? = some x∧x∈secs L∧plS L x=i∧rank (nmS L) x.name=i∧s=fS L x:=by
 rw [fin_secs,List.getElem?_map,Option.map_eq_some_iff] at h
 obtain ⟨x,hx,rfl⟩:=h
 obtain ⟨h1,h2⟩:=SS_pl hL hx
 exact ⟨x,hx,h1,by unfold plS;omega,h2,rfl⟩
theorem secs_pl {x:Itm} (hx:x∈secs L):(fin L).secs[plS L x]? = some (fS L x):=by
 rw [fin_secs,List.getElem?_map,SS_at hL hx];rfl
theorem sigs_at {i:Nat} {g:Sig} (h:(fin L).sigs[i]? = some g):∃ x,(GG L)[i]? = some x∧x∈sigs L∧plG L x=i∧rank (nmG L) x.name=i∧g=sigW (rank (nmS L)) L x:=by
 rw [fin_sigs,List.getElem?_map,Option.map_eq_some_iff] at h
 obtain ⟨x,hx,rfl⟩:=h
 have hx':=GG_mem.1 (List.mem_of_getElem? hx)
 have hr:rank (nmG L) x.name=i:=by
  rw [show nmG L=(sigs L).map Itm.name from rfl,← rank_perm ((GG_perm L).map Itm.name)]
  exact rank_at (rise_map (GG_rise hL)) i _ (by rw[List.getElem?_map,hx];rfl)
 exact ⟨x,hx,hx',by unfold plG;omega,hr,rfl⟩
theorem sigs_pl {x:Itm} (hx:x∈sigs L):(fin L).sigs[plG L x]? = some (sigW (rank (nmS L)) L x):=by
 rw [fin_sigs,List.getElem?_map,GG_at hL hx];rfl
theorem secs_rise:Rise Sec.name (fin L).secs:=by
 unfold Rise
 rw [fin_secs,List.pairwise_map]
 exact SS_rise hL
theorem sigs_rise:Rise Sig.name (fin L).sigs:=by
 unfold Rise
 rw [fin_sigs,List.pairwise_map]
 exact GG_rise hL
omit hL in
theorem secs_len:(fin L).secs.length=(secs L).length:=by rw[fin_secs,List.length_map];exact isort_len _ _
omit hL in
theorem sigs_len:(fin L).sigs.length=(sigs L).length:=by rw[fin_sigs,List.length_map];exact isort_len _ _
theorem plain_end {i:Nat} {s:Sec} (h:(fin L).secs[i]? = some s) (hp:s.pt=false):s.e2=stop:=by
 obtain ⟨x,_,_,_,_,rfl⟩:=secs_at hL h
 show (if isPt x then _ else stop)=stop
 have:isPt x=false:=hp
 rw [this];rfl
include hS
theorem end_cases {i e:Nat} {s:Sec} (h:(fin L).secs[i]? = some s) (he:e<3) :
 s.get e=stop ∨
 (∃ x,x∈secs L∧e<nEnds (isPt x)∧plS L x=i∧s=fS L x∧partner L (tip x e)=some none∧(s.get e).goes = -1∧(s.get e).at_=0∧(s.get e).sig = -1) ∨
 (∃ (x:Itm) (j f:Nat) (t:Sec),x∈secs L∧e<nEnds (isPt x)∧plS L x=i∧s=fS L x∧(fin L).secs[j]? = some t∧f<3∧(s.get e).goes=(j:Int)∧(s.get e).at_=(f:Int)∧(t.get f).goes=(i:Int)∧(t.get f).at_=(e:Int) ∧
  ((s.get e).sig = -1∨∃ (k:Nat) (g:Sig),(fin L).sigs[k]? = some g∧(s.get e).sig=(k:Int)∧g.sec=(i:Int)∧g.en=(e:Int))):=by
 obtain ⟨x,hx,hxs,hpl,hrk,rfl⟩:=secs_at hL h
 by_cases hen:e<nEnds (isPt x)
 ·right
  have ha:(i,e)∈endsP (fin L):=mem_endsP.2 ⟨x,hx,hen⟩
  have hta:ta L (i,e)=tip x e:=tipP_eq hx
  have hg:(fS L x).get e=enP (fin L) (i,e):=by rw[enP_eq hx hen,get_fS hen]
  have hne:=ta_partner hL hS ha
  have hsg:∀ u,sigAt L (tip x e)=some u→∃ y∈sigs L,y.e0=tip x e∧y.name=u∧∃ v,partner L (tip x e)=some (some v):=fun u hu=>by
   obtain ⟨y,hy,h1,h2⟩:=sigAt_some hu
   refine ⟨y,hy,h1,h2,?_⟩
   have:=hS y (mem_sigs.1 hy).1
   unfold lackErr at this
   rw [if_neg (by rw[(sig_facts (mem_sigs.1 hy).2).2.1];simp),if_pos (mem_sigs.1 hy).2,h1] at this
   cases hp:partner L (tip x e) with
   | none=>rw[hp] at this;cases this
   | some v =>
     cases v with
     | none=>rw[hp] at this;cases this
     | some v=>exact ⟨v,rfl⟩
  cases hp:partner L (ta L (i,e)) with
  | none=>exact absurd hp hne
  | some v =>
    cases v with
    | none =>
      left
      obtain ⟨h1,h2⟩:=en_stop ha hp
      rw [hta] at hp
      refine ⟨x,hxs,hen,hpl,rfl,hp,by rw[hg];exact h1,by rw[hg];exact h2,?_⟩
      rw [get_fS hen]
      show (match sigAt L (tip x e) with | some g=>rank (nmG L) g | none=>-1) = -1
      cases hs:sigAt L (tip x e) with
      | none=>rfl
      | some u =>
        obtain ⟨_,_,_,_,v,hv⟩:=hsg u hs
        rw [hp] at hv;cases hv
    | some u =>
      right
      obtain ⟨b,hb,rfl⟩:=ta_ments hL (partner_ments (t:=u) (by rw[(partner_sym hL.ments hp).1];simp))
      obtain ⟨h1,h2⟩:=en_join hL ha hb hp
      obtain ⟨h3,h4⟩:=en_join hL hb ha (partner_sym hL.ments hp).1
      obtain ⟨j,f⟩:=b
      obtain ⟨y,hy,hf⟩:=mem_endsP.1 hb
      have hf3:f<3:=by
       have:nEnds (isPt y)≤3:=by unfold nEnds;split <;> omega
       exact Nat.lt_of_lt_of_le hf this
      have hgy:(fS L y).get f=enP (fin L) (j,f):=by rw[enP_eq hy hf,get_fS hf]
      refine ⟨x,j,f,fS L y,hxs,hen,hpl,rfl,by rw[fin_secs,List.getElem?_map,hy];rfl,hf3,by rw[hg];exact h1,by rw[hg];exact h2,by rw[hgy];exact h3,by rw[hgy];exact h4,?_⟩
      rw [get_fS hen]
      show ((match sigAt L (tip x e) with | some g=>rank (nmG L) g | none=>-1) = -1)∨∃ k g,_∧(match sigAt L (tip x e) with | some g=>rank (nmG L) g | none=>-1)=_∧_
      cases hs:sigAt L (tip x e) with
      | none=>exact .inl rfl
      | some u =>
        obtain ⟨z,hz,h5,h6,_⟩:=hsg u hs
        refine .inr ⟨plG L z,_,sigs_pl hL hz,?_,?_,?_⟩
        ·show rank (nmG L) u=_
         rw [← h6]
         have:=rank_nonneg (nmG L) z.name
         unfold plG;omega
        ·show rank (nmS L) z.e0.n=_
         rw [h5];exact hrk
        ·show (((endAt (ptOf L z.e0.n) z.e0.c).getD 0:Nat):Int)=_
         rw [h5,tip_at hL hxs hen];rfl
 ·left
  unfold Sec.get
  have hp:isPt x=false:=by
   cases hp:isPt x with
   | false=>rfl
   | true=>rw[hp] at hen;exact absurd he hen
  have h2:e=2:=by rw[hp] at hen;simp [nEnds] at hen;omega
  subst h2
  show (if isPt x then _ else stop)=stop
  rw [hp];rfl
omit hS in
theorem sig_cases {i:Nat} {g:Sig} (h:(fin L).sigs[i]? = some g):∃ (j f:Nat) (t:Sec),(fin L).secs[j]? = some t∧f<3∧g.sec=(j:Int)∧g.en=(f:Int)∧(t.get f).sig=(i:Int):=by
 obtain ⟨x,hx,hxs,_,hrk,rfl⟩:=sigs_at hL h
 have h9:=(sig_facts (mem_sigs.1 hxs).2).2.2.2.2
 obtain ⟨y,hy,f,hf,ht⟩:=told_all hL (mem_sigs.1 hxs).1 (t:=x.e0) (by unfold tips;rw[if_neg (by omega),if_neg (by omega),if_pos h9];simp)
 have hf3:f<3:=by
  have:nEnds (isPt y)≤3:=by unfold nEnds;split <;> omega
  exact Nat.lt_of_lt_of_le hf this
 refine ⟨plS L y,f,_,secs_pl hL hy,hf3,?_,?_,?_⟩
 ·show rank (nmS L) x.e0.n=_
  rw [ht]
  have:=rank_nonneg (nmS L) y.name
  show rank (nmS L) y.name=_
  unfold plS;omega
 ·show (((endAt (ptOf L x.e0.n) x.e0.c).getD 0:Nat):Int)=_
  rw [ht,tip_at hL hy hf];rfl
 ·rw [get_fS hf]
  show (match sigAt L (tip y f) with | some g=>rank (nmG L) g | none=>-1)=_
  rw [← ht,sigAt_eq hL.gends hxs]
  exact hrk
end
def find (l:List Sec) (nm:Nm):Int:=match l.findIdx? fun s=>decide (s.name=nm) with | some i=>(i:Int) | none=>-1
theorem find_none {l:List Sec} {nm:Nm} (h:∀ s∈l,s.name≠nm):find l nm = -1:=by
 unfold find
 rw [List.findIdx?_eq_none_iff.2 fun s hs=>by simpa using h s hs]
theorem find_at {l:List Sec} {nm:Nm} {i:Nat} {s:Sec} (h:l[i]? = some s) (hn:s.name=nm) (h0:∀ j<i,∀ t,l[j]? = some t→t.name≠nm):find l nm=i:=by
 unfold find
 have:l.findIdx? (fun s=>decide (s.name=nm))=some i:=by
  rw [List.findIdx?_eq_some_iff_getElem]
  obtain ⟨hi,rfl⟩:=List.getElem?_eq_some_iff.1 h
  exact ⟨hi,by simpa using hn,fun j hj=>by simpa using h0 j hj _ (List.getElem?_eq_getElem (by omega))⟩
 rw [this]
theorem find_cases (l:List Sec) (nm:Nm):(find l nm = -1∧∀ s∈l,s.name≠nm)∨∃ i s,find l nm=(i:Nat)∧l[i]? = some s∧s.name=nm:=by
 cases h:l.findIdx? fun s=>decide (s.name=nm) with
 | none=>exact .inl ⟨by unfold find;rw[h],fun s hs=>by simpa using List.findIdx?_eq_none_iff.1 h s hs⟩
 | some i =>
   obtain ⟨hi,h1,_⟩:=List.findIdx?_eq_some_iff_getElem.1 h
   exact .inr ⟨i,l[i],by unfold find;rw[h],List.getElem?_eq_getElem hi,by simpa using h1⟩
theorem tipErr_in (M:List Itm) (used:List Tp) (t:Tp):tipErr M used t=0∨tipErr M used t=4∨tipErr M used t=5∨tipErr M used t=6:=by
 unfold tipErr
 repeat' split
 all_goals simp
theorem lineErr_2 (M:List Itm) (x:Itm):lineErr M x=2 ↔ It.right x=false:=by
 constructor
 ·intro h
  cases hr:It.right x with
  | false=>rfl
  | true =>
    have h1:=tipErr_in M (ments M) x.e0
    have h2:=tipErr_in M (ments M++[x.e0]) x.e1
    have h3:=tipErr_in M [] x.e0
    unfold lineErr joinErr sigErr at h
    rw [hr,if_neg (by simp)] at h
    repeat' split at h
    all_goals (first | omega | simp at h)
 ·intro h
  unfold lineErr
  rw [h];rfl
theorem build_at {K:List Itm} {i:Nat} {e:Int} (hi:i<K.length) (he:errAt K i=e) (h0:e≠0) (hj:∀ j<i,errAt K j=0):build K=(Plan.zero,e,i+1):=by
 unfold build
 rw [firstE_some.2 ⟨hi,by rw[he];exact h0,hj⟩]
 simp only [he]
theorem errAt_take {L:List Itm} {i n:Nat} (h:i<n) (hn:n≤L.length):errAt (L.take n) i=errAt L i:=by
 have:=errAt_left (M:=L.take n) (N:=L.drop n) (i:=i) (by rw[List.length_take];omega)
 rw [List.take_append_drop] at this
 exact this.symm
end Go.Proofs.YtncphjodaklleaaGreat.Pl
