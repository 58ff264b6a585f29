/-
 Texts of this claim, merged: LpRef, LpRefB, LpRefC, BsSpec, ClSpec, TbSpec, BsMem.
-/
import Derived.Test.YtncphjodaklleaaGreatMg02
import Derived.Test.YtncphjodaklleaaGreatMg04
import Derived.Test.YtncphjodaklleaaGreatMg08
import Derived.Test.YtncphjodaklleaaGreatMg13
import Derived.Test.YtncphjodaklleaaGreatMg14
import Derived.Test.YtncphjodaklleaaGreatMg17
import Derived.Test.YtncphjodaklleaaGreatMg19
import Derived.BigQuiet
import Derived.Deep.RegionHeld3
import Derived.Laws.BitsAllLaws
import Derived.Lib.TrailingZeros
import Derived.WalkKit
namespace Go.Proofs.YtncphjodaklleaaGreat
open Go.RowKit
abbrev lookO (p:Pl.Plan) (A:Option Addr) (c:Nat) (A':Option Addr) (c':Nat) (b:Int) (v:Value) (n:Nat):Obj:=.cells #[.int .i64 p.ov,.int .i64 p.ap,.int .i64 p.se,.int .i64 p.ho,.slice A p.secs.length c,.slice A' p.sigs.length c',.int .i64 b,v,.int .i64 n] 155
def LookAt (p:Pl.Plan) (A:Option Addr) (c:Nat) (A':Option Addr) (c':Nat) (b:Int) (v:Value) (g:Nat) (w0 wr:World) (n:Nat):Prop :=
 Below w0.heap.size w0 wr∧w0.heap.size≤g∧wr.heap[g]? = some (lookO p A c A' c' b v n)
abbrev LTame (w w':World):Prop:=Tame 155 155 w w'
section
variable {p : Pl.Plan} {A : Option Addr} {c : Nat} {A' : Option Addr} {c' : Nat} {b : Int} {v : Value} {g : Nat} {w0 wr : World} {n : Nat}
theorem LookAt.below {w2:World} (hh:LookAt p A c A' c' b v g w0 wr n) (hb:Below wr.heap.size wr w2):LookAt p A c A' c' b v g w0 w2 n:=by
 obtain ⟨h1,h2,h3⟩:=hh
 exact ⟨h1.trans (hb.mono h1.size),h2,(hb.block _ (Array.getElem?_eq_some_iff.1 h3).1).trans h3⟩
theorem LookAt.came (hh:LookAt p A c A' c' b v g w0 wr n):LookAt p A c A' c' b v g w0 (wr.setCell ⟨g,8,none⟩ (.int .i64 ((n:Int)+1))) (n+1)∧LTame wr (wr.setCell ⟨g,8,none⟩ (.int .i64 ((n:Int)+1))):=by
 obtain ⟨h1,h2,h3⟩:=hh
 refine ⟨⟨h1.setCell h2 _,h2,?_⟩,set_tame h3⟩
 rw [heap_setCell_same _ _ _ _ _ _ h3]
 rfl
end
open Go.RowKit
namespace Lp
open Go Pl Wk
variable {p : Plan} {go : Int → Int → List Stp → Nat → Option (List Stp) × Nat} {s sum : Int} {st : List Stp} {x : Stp} {l : List Stp} {m : Nat}
theorem seek_last (h:lasts p sum s x=true):seek p go s sum st (x :: l) m=(some (st++[x]),m):=by rw[seek,if_pos h]
theorem seek_hit (h:lasts p sum s x=false) {r:List Stp} {m1:Nat} (hg:go (next p s x.t).1 (next p s x.t).2.1 (st++[x]) m=(some r,m1)):seek p go s sum st (x :: l) m=(some r,m1):=by rw[seek,if_neg (by rw[h];decide),hg]
theorem seek_on (h:lasts p sum s x=false) {m1:Nat} (hg:go (next p s x.t).1 (next p s x.t).2.1 (st++[x]) m=(none,m1)):seek p go s sum st (x :: l) m=seek p go s sum st l m1:=by rw[seek,if_neg (by rw[h];decide),hg]
end Lp
section
variable {p : Pl.Plan} {A : Option Addr} {c : Nat} {A' : Option Addr} {c' : Nat} {b : Int} {g : Nat} {w0 w : World} {n : Nat} {way : List Wk.Stp} {Aw : Option Addr} {cw : Nat}
end
open Go.RowKit
def LapYes (x:List Wk.Stp × Int) (w:World) (e:Ending) (w':World):Prop:=∃ B d,e=.returned (.tuple #[.slice B x.1.length d,.int .i64 x.2])∧TRow 123 LStp w' B x.1∧x.1.length≤d∧Below w.heap.size w w'
theorem LapYes.nil {w w':World} (e:Int) (hb:Below w.heap.size w w'):LapYes ([],e) w (.returned (.tuple #[.slice none 0 0,.int .i64 e])) w':=⟨none,0,rfl,.inl rfl,Nat.le_refl _,hb⟩
abbrev wayV (A:Option Addr) (c:Nat) (y:Cr.Way):Value:=.agg #[.slice A y.steps.length c,.int .i64 y.exit]
abbrev wayO (A:Option Addr) (n c:Nat) (ex:Int):Obj:=.cells #[.slice A n c,.int .i64 ex] 80
theorem rowY {w:World} {g:Nat} {a b:Value} {t:TypeId} (h:w.heap[g]? = some (.cells #[a,b] t (0,0))):(w.cell? ⟨g,0,none⟩ = some a∧w.cell? ⟨g,1,none⟩ = some b)∧(w.frozen? ⟨g,0,none⟩ = false∧w.frozen? ⟨g,1,none⟩ = false)∧g<w.heap.size :=
 ⟨⟨cell_of_row w g 0 _ t _ h,cell_of_row w g 1 _ t _ h⟩,⟨frozen_of_row w g 0 _ t h,frozen_of_row w g 1 _ t h⟩,(Array.getElem?_eq_some_iff.1 h).1⟩
theorem Lp.of_bad {p:Pl.Plan} {i:Int} (h:Cr.sigAt p i=none) (y:Cr.Way):Lp.of p i y=([],4):=by unfold Lp.of;rw[h]
theorem Lp.of_exit {p:Pl.Plan} {i:Int} {g:Pl.Sig} (h:Cr.sigAt p i=some g) {y:Cr.Way} (hy:(p.sigs.length:Int)≤y.exit):Lp.of p i y=([],4):=by unfold Lp.of;rw[h];simp only;rw[if_pos hy]
end Go.Proofs.YtncphjodaklleaaGreat
namespace Go.Proofs.YtncphjodaklleaaGreat.Bs
def W32 (L:List Nat):Prop:=∀ x∈L,x<4294967296
def fits (L:List Nat) (n:Int):Bool:=decide (0≤n) && decide (n.toNat / 32<L.length)
def has (L:List Nat) (n:Int):Bool:=decide (0≤n) && (L.getD (n.toNat / 32) 0).testBit (n.toNat % 32)
def put (L:List Nat) (n:Int):List Nat:=if fits L n=true then L.set (n.toNat / 32) (L.getD (n.toNat / 32) 0 ||| 2 ^ (n.toNat % 32)) else L
def new (n:Int):List Nat:=if n<1 then [] else List.replicate ((n - 1).toNat / 32+1) 0
def ofL (n:Int) (l:List Int):List Nat:=l.foldl (fun s x=>if x<n then put s x else s) (new n)
def told (L:List Nat) (n:Nat):List Int:=((List.range n).filter fun (k:Nat)=>has L (k:Int)).map fun (k:Nat)=>(k:Int)
def list (L:List Nat):List Int:=told L (32 * L.length)
theorem fits_iff {L:List Nat} {n:Int}:fits L n=true ↔ 0≤n∧n.toNat / 32<L.length:=by
 unfold fits
 rw [Bool.and_eq_true,decide_eq_true_eq,decide_eq_true_eq]
theorem W32.at {L:List Nat} (h:W32 L) (i:Nat):L.getD i 0<4294967296:=by
 rw [List.getD_eq_getElem?_getD]
 cases hx:L[i]? with
 | none=>show 0<_;omega
 | some y=>exact h y (List.mem_of_getElem? hx)
theorem or_lt {a j:Nat} (h:a<4294967296) (hj:j<32):a ||| 2 ^ j<4294967296:=by
 have h2:(2:Nat) ^ j<2 ^ 32:=Nat.pow_lt_pow_right (by decide) hj
 exact Nat.or_lt_two_pow (n:=32) h h2
theorem W32.put {L:List Nat} (h:W32 L) (n:Int):W32 (put L n):=by
 unfold Bs.put
 split
 ·intro x hx
  rcases List.mem_or_eq_of_mem_set hx with hx | rfl
  ·exact h x hx
  ·exact or_lt (h.at _) (Nat.mod_lt _ (by decide))
 ·exact h
theorem W32.new (n:Int):W32 (new n):=by
 unfold Bs.new
 split
 ·intro x hx;cases hx
 ·intro x hx
  rw [(List.mem_replicate.1 hx).2];decide
theorem W32.ofL (n:Int) (l:List Int):W32 (ofL n l):=by
 unfold Bs.ofL
 have : ∀ (l:List Int) (s:List Nat),W32 s→W32 (l.foldl (fun s x=>if x<n then Bs.put s x else s) s):=by
  intro l
  induction l with
  | nil=>intro s hs;exact hs
  | cons x l ih =>
    intro s hs
    rw [List.foldl_cons]
    split
    ·exact ih _ (hs.put x)
    ·exact ih _ hs
 exact this l _ (W32.new n)
theorem put_len (L:List Nat) (n:Int):(put L n).length=L.length:=by
 unfold put
 split
 ·exact List.length_set
 ·rfl
theorem fold_len (n:Int):∀ (l:List Int) (s:List Nat),(l.foldl (fun s x=>if x<n then put s x else s) s).length=s.length
 | [],_=>rfl
 | x :: l,s=>by
   rw [List.foldl_cons,fold_len n l]
   split
   ·exact put_len _ _
   ·rfl
theorem ofL_len (n:Int) (l:List Int):(ofL n l).length=(new n).length:=fold_len n l _
theorem new_len (n:Int):(new n).length=if n<1 then 0 else (n - 1).toNat / 32+1:=by
 unfold new
 split <;> simp
theorem ofL_take {n:Int} {l:List Int} {k:Nat} {x:Int} (h:l[k]? = some x):ofL n (l.take (k+1))=if x<n then put (ofL n (l.take k)) x else ofL n (l.take k):=by
 unfold ofL
 rw [List.take_add_one,h,List.foldl_append]
 rfl
end Go.Proofs.YtncphjodaklleaaGreat.Bs
namespace Go.Proofs.YtncphjodaklleaaGreat.Cl
open Go Pl Wk
def share (a b:List Stp):Bool:=a.any fun x=>within b x.s
def opp (a b:List Dm.Dem):Bool:=Dm.opposed a b || Dm.opposed b a
def leads (r s:Rt.Route):Bool:=decide (0≤r.exit) && (r.exit == s.entry)
def meets (r s:Rt.Route):Bool:=!leads r s && (share r.lap s.steps || share r.lap s.lap)
def bars (r s:Rt.Route):Bool:=(r.entry == s.entry) || share r.steps s.steps || opp r.pts s.pts || meets r s || meets s r
def hit (L:List Rt.Route) (i k:Nat):Bool:=decide (k≠i) && bars (L.getD i Rt.zero) (L.getD k Rt.zero)
def barred (L:List Rt.Route) (i n:Nat):List Int:=((List.range n).filter fun k=>hit L i k).map fun (k:Nat)=>(k:Int)
def row (L:List Rt.Route) (i:Nat):List Nat:=Bs.ofL (L.length:Int) (barred L i L.length)
def rows (L:List Rt.Route):List (List Nat):=(List.range L.length).map (row L)
theorem barred_succ (L:List Rt.Route) (i n:Nat):barred L i (n+1)=barred L i n++if hit L i n=true then [(n:Int)] else []:=by
 unfold barred
 rw [List.range_succ,List.filter_append,List.map_append]
 congr 1
 cases h:hit L i n <;> simp [h]
theorem barred_len (L:List Rt.Route) (i n:Nat):(barred L i n).length≤n:=by
 unfold barred
 rw [List.length_map]
 exact Nat.le_trans (List.length_filter_le _ _) (by rw[List.length_range];exact Nat.le_refl _)
theorem mem_barred {L:List Rt.Route} {i n:Nat} {x:Int}:x∈barred L i n ↔ ∃ k:Nat,k<n∧hit L i k=true∧(k:Int)=x:=by
 unfold barred
 simp [and_assoc]
theorem rows_len (L:List Rt.Route):(rows L).length=L.length:=by unfold rows;rw[List.length_map,List.length_range]
theorem rows_at (L:List Rt.Route) {i:Nat} (hi:i<L.length):(rows L)[i]? = some (row L i):=by
 unfold rows
 rw [List.getElem?_map,List.getElem?_range hi]
 rfl
theorem row_len (L:List Rt.Route) (i:Nat):(row L i).length≤L.length:=by
 unfold row
 rw [Bs.ofL_len,Bs.new_len]
 split <;> omega
theorem rows_take (L:List Rt.Route) {i:Nat} (hi:i<L.length):(rows L).take (i+1)=(rows L).take i++[row L i]:=by
 rw [List.take_add_one,rows_at L hi]
 rfl
def Tiny (r:Rt.Route):Prop:=r.steps.length≤1000000∧r.lap.length≤1000000∧r.pts.length≤1000000
end Go.Proofs.YtncphjodaklleaaGreat.Cl
namespace Go.Proofs.YtncphjodaklleaaGreat.Tb
open Go Pl Wk
structure Table where
 names:List Nm
 points:List Bool
 sigs:List Nm
 settle:Int
 routes:List Rt.Route
 bars:List (List Nat)
deriving DecidableEq
def zero:Table:=⟨[],[],[],0,[],[]⟩
noncomputable def make (p:Plan):Table × Int:=if (Rt.all p).2=0 then (⟨p.secs.map Sec.name,p.secs.map Sec.pt,p.sigs.map Sig.name,p.se,(Rt.all p).1,Cl.rows (Rt.all p).1⟩,0) else (zero,(Rt.all p).2)
def ups (f:Nat→Bool) (j n:Nat):Bool:=(List.range' j (n - j)).all f
theorem ups_end (f:Nat→Bool) (n:Nat):ups f n n=true:=by unfold ups;rw[Nat.sub_self];rfl
theorem ups_step (f:Nat→Bool) {j n:Nat} (h:j<n):ups f j n=(f j && ups f (j+1) n):=by
 unfold ups
 rw [show n - j=(n - (j+1))+1 from by omega,List.range'_succ,List.all_cons]
theorem ups_iff {f:Nat→Bool} {j n:Nat}:ups f j n=true ↔ ∀ i,j≤i→i<n→f i=true:=by
 unfold ups
 rw [List.all_eq_true]
 constructor
 ·intro h i h1 h2
  exact h i (List.mem_range'_1.2 ⟨h1,by omega⟩)
 ·intro h i hi
  have:=List.mem_range'_1.1 hi
  exact h i this.1 (by omega)
def nameOk (L:List Nm) (i:Nat):Bool:=Fig.nameB (L.getD i []) && (decide (i=0) || decide (L.getD (i - 1) []<L.getD i []))
def namesOk (L:List Nm):Bool:=ups (nameOk L) 0 L.length
def stp0:Stp:=⟨0,0,0⟩
def dem0:Dm.Dem:=⟨0,0⟩
def goesOk (pts:List Bool) (x:Stp):Bool:=(min x.f x.t == 0) && ((max x.f x.t == 1) || ((max x.f x.t == 2) && pts.getD x.s.toNat false))
def stepOk (pts:List Bool) (l others:List Stp) (i:Nat):Bool :=
 decide (0≤(l.getD i stp0).s) && decide ((l.getD i stp0).s<(pts.length:Int)) && !within (l.take i) (l.getD i stp0).s && !within others (l.getD i stp0).s && goesOk pts (l.getD i stp0)
def stepsOk (pts:List Bool) (l others:List Stp):Bool:=ups (stepOk pts l others) 0 l.length && decide ((l.length:Int)≤16)
def riseOk (l:List Int) (n:Int) (i:Nat):Bool:=decide (0≤l.getD i 0) && decide (l.getD i 0<n) && (decide (i=0) || decide (l.getD (i - 1) 0<l.getD i 0))
def risingOk (l:List Int) (n:Int):Bool:=ups (riseOk l n) 0 l.length
def askOk (pts:List Bool) (d:List Dm.Dem) (x:Stp):Bool:=!pts.getD x.s.toNat false || (Dm.posOf d x.s == max x.f x.t)
def asksOk (pts:List Bool) (d:List Dm.Dem) (l:List Stp):Bool:=l.all (askOk pts d)
def demOk (pts:List Bool) (d:List Dm.Dem) (i:Nat):Bool :=
 decide (0≤(d.getD i dem0).pt) && decide ((d.getD i dem0).pt<(pts.length:Int)) && pts.getD (d.getD i dem0).pt.toNat false && (((d.getD i dem0).pos == 1) || ((d.getD i dem0).pos == 2)) && (decide (i=0) || decide ((d.getD (i - 1) dem0).pt<(d.getD i dem0).pt))
def demandsOk (pts:List Bool) (d:List Dm.Dem):Bool:=ups (demOk pts d) 0 d.length
def fits (t:Table) (r:Rt.Route):Bool :=
 decide (0≤r.entry) && decide (r.entry<(t.sigs.length:Int)) && decide (-1≤r.exit) && decide (r.exit<(t.sigs.length:Int)) && decide (0<(r.steps.length:Int)) && stepsOk t.points r.steps [] && stepsOk t.points r.lap r.steps && demandsOk t.points r.pts &&
  asksOk t.points r.pts r.steps && asksOk t.points r.pts r.lap && risingOk r.fl t.sigs.length && risingOk r.near t.names.length && decide (0≤r.dist) && decide (r.dist<281474976710656) && decide (0≤r.timer) && decide (r.timer<4294967296)
def routeOk (t:Table) (i:Nat):Bool:=fits t (t.routes.getD i Rt.zero) && (decide (i=0) || decide ((t.routes.getD (i - 1) Rt.zero).entry≤(t.routes.getD i Rt.zero).entry))
def sizesOk (t:Table):Bool:=decide ((t.names.length:Int)≤24) && ((t.points.length:Int) == (t.names.length:Int)) && decide ((t.sigs.length:Int)≤12) && decide ((t.routes.length:Int)≤30)
def right (t:Table):Bool:=sizesOk t && namesOk t.names && namesOk t.sigs && decide (0≤t.settle) && decide (t.settle≤1000) && ups (routeOk t) 0 t.routes.length && decide (t.bars=Cl.rows t.routes)
theorem getD_at {α:Type} {l:List α} {i:Nat} {x d:α} (h:l[i]? = some x):l.getD i d=x:=by rw[List.getD_eq_getElem?_getD,h];rfl
theorem steps_in {pts:List Bool} {l o:List Stp} (h:stepsOk pts l o=true):∀ x∈l,0≤x.s∧x.s<(pts.length:Int):=fun x hx=>by
 unfold stepsOk at h
 obtain ⟨i,hi,rfl⟩:=List.getElem_of_mem hx
 have:=ups_iff.1 (Bool.and_eq_true_iff.1 h).1 i (Nat.zero_le _) hi
 unfold stepOk at this
 rw [getD_at (List.getElem?_eq_getElem hi)] at this
 simp only [Bool.and_eq_true,decide_eq_true_iff] at this
 exact ⟨this.1.1.1.1,this.1.1.1.2⟩
def Few (r:Rt.Route):Prop:=r.steps.length≤1000000∧r.lap.length≤1000000∧r.pts.length≤1000000∧r.fl.length≤1000000∧r.near.length≤1000000
end Go.Proofs.YtncphjodaklleaaGreat.Tb
namespace Go.Proofs.YtncphjodaklleaaGreat
open Go.RowKit
def LWd:Lies Nat:=⟨1,by decide,fun x=>[.int .u32 (x:Int)],fun _=>rfl,fun y u hu=>by
 simp at hu
 subst hu;rfl⟩
theorem wd_on {w:World} {b o:Nat} {x:Nat} (h:LWd.On w b o x):w.cell? ⟨b,o,none⟩ = some (.int .u32 (x:Int)):=h 0 _ rfl
theorem infoWd:(Tryz.prog.info? 72).map (fun i=>(i.zero,i.size,i.bytes))=some (some (.int .u32 0),1,4):=by kernel_rfl
theorem ownwd_empty (w:World) {g base:Nat} (hg:w.heap.size=g) (hb:base≤g:=by simp):(w.alloc (.cells #[] 72)).ownsRow base 72 LWd.m (.slice (some ⟨g,0,none⟩) 0 0) 0 []:=by
 subst hg
 exact ⟨rfl,.inr ⟨w.heap.size,0,#[],rfl,hb,heap_alloc_new _ _,Nat.le_refl _,by unfold maxLen;omega,rfl,rfl⟩⟩
def SetOwn (L:List Nat) (w:World) (e:Ending) (w':World):Prop:=∃ v,e=.returned v∧w'.ownsRow w.heap.size 72 LWd.m v L.length (LWd.all L)∧Below w.heap.size w w'
def SetYes (L:List Nat) (w:World) (e:Ending) (w':World):Prop:=∃ B d,e=.returned (.slice B L.length d)∧LWd.Row w' B L∧L.length≤d∧Below w.heap.size w w'
theorem SetOwn.yes {L:List Nat} {w:World} {e:Ending} {w':World} (h:SetOwn L w e w'):SetYes L w e w':=by
 obtain ⟨v,rfl,ho,hb⟩:=h
 obtain ⟨-,B,d,rfl,hc,hR⟩:=Lies.Row.of_own (E:=LWd) ho
 exact ⟨B,d,rfl,hR,hc,hb⟩
def SetIs (n:Nat) (L:List Nat) (w:World) (e:Ending) (w':World):Prop:=∃ B d,e=.returned (.slice B n d)∧LWd.Row w' B L∧n≤d∧Below w.heap.size w w'
theorem SetIs.of {n:Nat} {L M:List Nat} {w:World} {f:FuncId} {xs:Array Value} (h:M=L) (hn:L.length=n) (hc:Calls Tryz.prog f xs w (SetYes M w)):Calls Tryz.prog f xs w (SetIs n L w) :=
 hc.mono fun e w' ⟨B,d,he,hr,hd,hb⟩=>by
  subst h hn
  exact ⟨B,d,he,hr,hd,hb⟩
theorem own_cases {w:World} {base:Nat} {v:Value} {L:List Nat} (h:w.ownsRow base 72 LWd.m v L.length (LWd.all L)):(v=.slice none 0 0∧L=[])∨∃ g cap,v=.slice (some ⟨g,0,none⟩) L.length cap∧base≤g∧g<w.heap.size:=by
 rcases h.2 with ⟨h1,h2⟩ | ⟨g,cap,cur,h1,h2,h3,-⟩
 ·exact .inl ⟨h1,List.eq_nil_of_length_eq_zero h2⟩
 ·exact .inr ⟨g,cap,h1,h2,(Array.getElem?_eq_some_iff.1 h3).1⟩
theorem own_at {w:World} {base g cap:Nat} {L:List Nat} (h:w.ownsRow base 72 LWd.m (.slice (some ⟨g,0,none⟩) L.length cap) L.length (LWd.all L)) {k:Nat} (hk:k<L.length) :
 w.cell? ⟨g,k,none⟩ = some (.int .u32 (L.getD k 0:Nat))∧w.frozen? ⟨g,k,none⟩ = false:=by
 constructor
 ·have:=wd_on (Lies.own_on (E:=LWd) h (k:=k) (List.getElem?_eq_getElem hk))
  rw [show k * LWd.m=k from Nat.mul_one k] at this
  rw [this,List.getD_eq_getElem?_getD,List.getElem?_eq_getElem hk]
  rfl
 ·rcases h.2 with ⟨h1,-⟩ | ⟨g',cap',cur,h1,-,h3,-⟩
  ·cases h1
  ·cases h1
   exact frozen_of_row w g k _ _ h3
theorem own_set {w:World} {base g cap:Nat} {L:List Nat} (h:w.ownsRow base 72 LWd.m (.slice (some ⟨g,0,none⟩) L.length cap) L.length (LWd.all L)) (k:Nat) (x:Nat) :
 (w.setCell ⟨g,k,none⟩ (.int .u32 (x:Int))).ownsRow base 72 LWd.m (.slice (some ⟨g,0,none⟩) L.length cap) (L.set k x).length (LWd.all (L.set k x)):=by
 rcases h.2 with ⟨h1,-⟩ | ⟨g',cap',cur,h1,h2,h3,h4,h5,h6,h7⟩
 ·cases h1
 ·cases h1
  rw [List.length_set]
  refine ⟨by rw[LWd.all_len,List.length_set],.inr ⟨g,cap,cur.setIfInBounds k (.int .u32 (x:Int)),rfl,h2,heap_setCell_same _ _ _ _ _ _ h3,h4,h5,by rw[Array.size_setIfInBounds];exact h6,?_⟩⟩
  rw [Array.toList_setIfInBounds,List.take_set,h7]
  have hm:LWd.m=1:=rfl
  by_cases hk:k<L.length
  ·have:=LWd.set_cell L k 0 L[k] x (List.getElem?_eq_getElem hk) (by decide) (.int .u32 (x:Int)) rfl
   rw [hm,Nat.mul_one,Nat.add_zero] at this
   exact this
  ·rw[List.set_eq_of_length_le (by rw[LWd.all_len,hm];omega),List.set_eq_of_length_le (by omega)]
namespace Bs
theorem shl_mod (j:Nat) (h:j<32):(2:Int) ^ j % 4294967296=((2 ^ j:Nat):Int):=by
 have h2:(2:Nat) ^ j<2 ^ 32:=Nat.pow_lt_pow_right (by decide) h
 have e:((2:Int) ^ j)=((2 ^ j:Nat):Int):=by simp
 rw [e]
 generalize (2:Nat) ^ j=b at h2 ⊢
 omega
end Bs
end Go.Proofs.YtncphjodaklleaaGreat
