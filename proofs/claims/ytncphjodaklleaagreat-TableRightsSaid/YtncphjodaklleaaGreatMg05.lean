/-
 Texts of this claim, merged: ItRPrint, ItTips, ItRead, ItParse, ItRParse, ItRParseN.
-/
import Derived.Test.YtncphjodaklleaaGreatMg04
import Derived.Deep.AppendLies
set_option maxHeartbeats 4000000
set_option maxRecDepth 100000
namespace Go.Proofs.YtncphjodaklleaaGreat
open Go.RowKit
abbrev itO (k:Int) (nm:ByteArray) (n:Int) (a:ByteArray) (ac:UInt8) (b:ByteArray) (bc:UInt8):Obj:=.cells #[.int .i64 k,.string nm,.int .i64 n,.string a,.int .u8 ac.toNat,.string b,.int .u8 bc.toNat] 93
theorem ownsRow_below {w w':World} {base:Nat} {e:TypeId} {size:Nat} {v:Value} {n:Nat} {xs:List Value} (h:w.ownsRow base e size v n xs) (hb:Below w.heap.size w w'):w'.ownsRow base e size v n xs:=by
 refine ⟨h.1,?_⟩
 rcases h.2 with hn | ⟨g,cap,cur,rfl,hbb,hgg,rest⟩
 ·exact .inl hn
 ·exact .inr ⟨g,cap,cur,rfl,hbb,by rw[hb.block g (Array.getElem?_eq_some_iff.1 hgg).1];exact hgg,rest⟩
theorem rprint_all (n:Int) (w:World) (h0:0≤n) (h1:n≤9223372036854775807) :
 Calls Tryz.prog 113 #[.int .i64 n] w fun e w'=>e=.returned (.string (txt (Lib.decDigits n.toNat)))∧Below w.heap.size w w':=rprint_any n.toNat n w h0 (by omega) h1
theorem rline_own (x:List UInt8) (T:List (List UInt8)) (w:World) (base:Nat) (v:Value) (n:Nat) (xs:List Value) (h:w.ownsRow base 9 1 v n xs) (hx:xs=(x :: T).map str) (hT:T.length≤2) (hl:(Ln.line (x :: T)).length≤10000000) :
 Calls Tryz.prog 115 #[v] w fun e w'=>e=.returned (.string (txt (Ln.line (x :: T))))∧w=w':=by
 subst hx
 obtain ⟨hn2,A4,c4,rfl,hcap2,hs2⟩:=Strs.of_own h
 have:=rline_any A4 c4 (x :: T) w hs2 (by simp;omega) hl
 rwa [← hn2] at this
theorem riprint_num (k:Int) (hk:It.isNum k=true) (nm:ByteArray) (n:Int) (a:ByteArray) (ac:UInt8) (b:ByteArray) (bc:UInt8) (w:World) (h0:0≤n) (h1:n≤9223372036854775807) :
 Calls Tryz.prog 74 #[.agg #[.int .i64 k,.string nm,.int .i64 n,.string a,.int .u8 ac.toNat,.string b,.int .u8 bc.toNat]] w fun e w'=>e=.returned (.string (txt (It.print (ofV k nm n a ac b bc))))∧Below w.heap.size w w':=by
 have HP:=Lib.hid (print_num hk nm n a ac b bc)
 have hV:=Lib.hid (((Below.refl w.heap.size w).alloc (Nat.le_refl _) (itO k nm n a ac b bc)).alloc (by simp) (.cells #[.string (txt (It.word k))] 9))
 have hV2:=Lib.hid (show w.heap.size≤((w.alloc (itO k nm n a ac b bc)).alloc (.cells #[.string (txt (It.word k))] 9)).heap.size by simp;omega)
 have HO:=Lib.hid (fun W (h:Below ((w.alloc (itO k nm n a ac b bc)).alloc (.cells #[.string (txt (It.word k))] 9)).heap.size ((w.alloc (itO k nm n a ac b bc)).alloc (.cells #[.string (txt (It.word k))] 9)) W)=>show W.ownsRow w.heap.size 9 1 (.slice (some ⟨w.heap.size+1,0,none⟩) 1 1) 1 [.string (txt (It.word k))] from by
  have:=ownsRow_below (World.ownsRow_lit (base:=w.heap.size) (e:=9) (size:=1) (w.alloc (itO k nm n a ac b bc)) #[.string (txt (It.word k))] 1 (by simp) (by unfold maxLen;omega) rfl) h
  rwa [show (w.alloc (itO k nm n a ac b bc)).heap.size=w.heap.size+1 by simp] at this)
 have C:=Lib.hid (fun w=>rword_any k w)
 obtain ⟨i0,hi,hz0,hz1,hz2⟩:=info_parts infoStr
 have HF:=Lib.hid (fun W (h:Below ((w.alloc (itO k nm n a ac b bc)).alloc (.cells #[.string (txt (It.word k))] 9)).heap.size ((w.alloc (itO k nm n a ac b bc)).alloc (.cells #[.string (txt (It.word k))] 9)) W)=>Made.of h (rprint_all n W h0 h1))
 have HL:=Lib.hid (fun W v m0 xs (h:World.ownsRow W w.heap.size 9 1 v m0 xs) (hx:xs=([It.word k,Lib.decDigits n.toNat]:List (List UInt8)).map str)=>rline_own (It.word k) [Lib.decDigits n.toNat] W w.heap.size v m0 xs h hx (by simp) (line2_le k _ (Nat.le_trans (dec_l20 h0 h1) (by decide))))
 have hk':=num_ways hk
 clear hk h0 h1
 rcases hk' with e1 | ⟨e1,e2⟩ | ⟨e1,e2,e3⟩ | ⟨e1,e2,e3,e4⟩
 all_goals
  go_enter Tryz.func74,Tryz.ntmps74
  go_wp2_with fail
  refine (C.out _).mono ?_;rintro e w0 ⟨rfl,rfl⟩
  go_wp2_with fail
  refine (HF.out _ (Below.refl _ _)).mono ?_;rintro e w2 ⟨rfl,hb,hacc,hz⟩;have hcell:=(bcell hb).1;have hz:w.heap.size+1<w2.heap.size:=by ((try simp at hz);omega)
  go_wp2_with (at_builtin;go_loud (refine wpList_append_own _ rfl (.tmp 15) (.tmp 19) 29 rfl w.heap.size 9 i0 (.string ByteArray.empty) 1 16 Tryz.underlying29 hi hz0 hz1 hz2 rfl (by decide) _ _ _ rfl ((HO.out _ hacc).alloc _) ⟨w2.heap.size,0,none⟩ 1 1 [.string (txt (Lib.decDigits n.toNat))] rfl rfl (cell_one_new _ _ _) (fun x hx=>by simp at hx;subst hx;rfl) (by unfold maxLen;omega) (by omega) (by simp;omega) ?_;intro v1 w3 hown1 hg1 _))
  have hbF:=Lib.hid (((hV.out.trans (hacc.mono hV2.out)).alloc (by omega) _).grown hg1 (by simp;omega) (fun g hg=>(((HO.out _ hacc).alloc (.cells #[.string (txt (Lib.decDigits n.toNat))] 9)).lt g hg).1))
  have LL:=Lib.hid (HL.out _ _ _ _ hown1 (by first | (simp [str];done) | simp [str,txt_of]))
  clear hown1 hg1 HO HL hV hV2
  go_wp2_with fail
  refine LL.out.mono ?_;rintro e w9 ⟨rfl,rfl⟩
  go_wp2_with fail
  go_ret
  exact ⟨retP HP.out.symm,hbF.out⟩
theorem riprint_len (k:Int) (hk:It.isLen k=true) (nm:ByteArray) (n:Int) (a:ByteArray) (ac:UInt8) (b:ByteArray) (bc:UInt8) (w:World) (h0:0≤n) (h1:n≤9223372036854775807) (hn:nm.size≤1000) :
 Calls Tryz.prog 74 #[.agg #[.int .i64 k,.string nm,.int .i64 n,.string a,.int .u8 ac.toNat,.string b,.int .u8 bc.toNat]] w fun e w'=>e=.returned (.string (txt (It.print (ofV k nm n a ac b bc))))∧Below w.heap.size w w':=by
 have HP:=Lib.hid (print_len (len_num hk) hk nm n a ac b bc)
 have hV:=Lib.hid (((Below.refl w.heap.size w).alloc (Nat.le_refl _) (itO k nm n a ac b bc)).alloc (by simp) (.cells #[.string (txt (It.word k))] 9))
 have hV2:=Lib.hid (show w.heap.size≤((w.alloc (itO k nm n a ac b bc)).alloc (.cells #[.string (txt (It.word k))] 9)).heap.size by simp;omega)
 have HO:=Lib.hid (fun W (h:Below ((w.alloc (itO k nm n a ac b bc)).alloc (.cells #[.string (txt (It.word k))] 9)).heap.size ((w.alloc (itO k nm n a ac b bc)).alloc (.cells #[.string (txt (It.word k))] 9)) W)=>show W.ownsRow w.heap.size 9 1 (.slice (some ⟨w.heap.size+1,0,none⟩) 1 1) 1 [.string (txt (It.word k))] from by
  have:=ownsRow_below (World.ownsRow_lit (base:=w.heap.size) (e:=9) (size:=1) (w.alloc (itO k nm n a ac b bc)) #[.string (txt (It.word k))] 1 (by simp) (by unfold maxLen;omega) rfl) h
  rwa [show (w.alloc (itO k nm n a ac b bc)).heap.size=w.heap.size+1 by simp] at this)
 have C:=Lib.hid (fun w=>rword_any k w)
 obtain ⟨i0,hi,hz0,hz1,hz2⟩:=info_parts infoStr
 have HF:=Lib.hid (fun W (h:Below ((w.alloc (itO k nm n a ac b bc)).alloc (.cells #[.string (txt (It.word k))] 9)).heap.size ((w.alloc (itO k nm n a ac b bc)).alloc (.cells #[.string (txt (It.word k))] 9)) W)=>Made.of h (rprint_all n W h0 h1))
 have HL:=Lib.hid (fun W v m0 xs (h:World.ownsRow W w.heap.size 9 1 v m0 xs) (hx:xs=([It.word k,nm.data.toList,Lib.decDigits n.toNat]:List (List UInt8)).map str)=>rline_own (It.word k) [nm.data.toList,Lib.decDigits n.toNat] W w.heap.size v m0 xs h hx (by simp) (line3_le k _ _ (by simp;omega) (Nat.le_trans (dec_l20 h0 h1) (by decide))))
 obtain ⟨e1,e2,e3,e4,hk'⟩:=len_ways hk
 clear hk h0 h1 hn
 rcases hk' with e5 | ⟨e5,e6⟩
 all_goals
  go_enter Tryz.func74,Tryz.ntmps74
  go_wp2_with fail
  refine (C.out _).mono ?_;rintro e w0 ⟨rfl,rfl⟩
  go_wp2_with fail
  go_region_held3 (fun w'=>w'.cell? ⟨w.heap.size,1,none⟩ = some (.string nm)∧w'.cell? ⟨w.heap.size,2,none⟩ = some (.int .i64 n))
   (refine ⟨?_,?_⟩ <;> (go_keep;done))
   (first
    | (go_at_call 113;(with_reducible refine (HF.out _ (Below.refl _ _).drew).mono ?_);rintro e w2 ⟨rfl,hb,hacc,hz⟩;have hcell:=fun o=>hb.cell (p:=⟨w.heap.size,o,none⟩) (by first | (simp;done) | ((try simp);omega));have hz:w.heap.size+1<w2.heap.size:=by ((try simp at hz);omega))
    | (refine step_append_lies _ (by rfl) (.tmp 24) (.tmp 30) 29 (by rfl) w.heap.size 9 i0 (.string ByteArray.empty) 1 16 Tryz.underlying29 hi hz0 hz1 hz2 rfl (by omega) (.slice (some ⟨w.heap.size+1,0,none⟩) 1 1) 1 _ (by rfl) ((HO.out _ hacc).alloc _) ⟨w2.heap.size,0,none⟩ 2 2 [.string nm,.string (txt (Lib.decDigits n.toNat))] (by rfl) (by rfl) (World.news_of_block (heap_alloc_new w2 (.cells #[.string nm,.string (txt (Lib.decDigits n.toNat))] 9))) (by simp [Value.oneCell']) (by omega) (by unfold maxLen;omega) (by omega) (by simp;omega) (w2.heap.size+1) (by simp) ?_;intro gg cap w3 hown1 hg1 hat hlt;have hbF:=Lib.hid (((hV.out.trans (hacc.mono hV2.out)).alloc (by omega) (.cells #[.string nm,.string (txt (Lib.decDigits n.toNat))] 9)).grown hg1 (by simp;omega) (fun g hg=>(((HO.out _ hacc).alloc (.cells #[.string nm,.string (txt (Lib.decDigits n.toNat))] 9)).lt g hg).1));have hcell2:=fun o=>hg1.cell_far ⟨w.heap.size,o,none⟩ (by simp;omega) (by simp [Value.ownBlock])))
  all_goals
   have LL:=Lib.hid (HL.out _ _ _ _ hown1 (by first | (simp [str];done) | simp [str,txt_of]))
   clear hown1 hg1
   go_wp2_with fail
   refine LL.out.mono ?_;rintro e w9 ⟨rfl,rfl⟩
   go_wp2_with fail
   go_ret
   exact ⟨retP HP.out.symm,hbF.out⟩
theorem riprint_7 (nm:ByteArray) (n:Int) (a:ByteArray) (ac:UInt8) (b:ByteArray) (bc:UInt8) (w:World) (ha:a.size≤1000) (hb:b.size≤1000) :
 Calls Tryz.prog 74 #[.agg #[.int .i64 7,.string nm,.int .i64 n,.string a,.int .u8 ac.toNat,.string b,.int .u8 bc.toNat]] w fun e w'=>e=.returned (.string (txt (It.print (ofV 7 nm n a ac b bc))))∧Below w.heap.size w w':=by
 have HP:=Lib.hid (print_7 nm n a ac b bc)
 have hV:=Lib.hid (((Below.refl w.heap.size w).alloc (Nat.le_refl _) (itO 7 nm n a ac b bc)).alloc (by simp) (.cells #[.string (txt (It.word 7))] 9))
 have hV2:=Lib.hid (show w.heap.size≤((w.alloc (itO 7 nm n a ac b bc)).alloc (.cells #[.string (txt (It.word 7))] 9)).heap.size by simp;omega)
 have HO:=Lib.hid (fun W (h:Below ((w.alloc (itO 7 nm n a ac b bc)).alloc (.cells #[.string (txt (It.word 7))] 9)).heap.size ((w.alloc (itO 7 nm n a ac b bc)).alloc (.cells #[.string (txt (It.word 7))] 9)) W)=>show W.ownsRow w.heap.size 9 1 (.slice (some ⟨w.heap.size+1,0,none⟩) 1 1) 1 [.string (txt (It.word 7))] from by
  have:=ownsRow_below (World.ownsRow_lit (base:=w.heap.size) (e:=9) (size:=1) (w.alloc (itO 7 nm n a ac b bc)) #[.string (txt (It.word 7))] 1 (by simp) (by unfold maxLen;omega) rfl) h
  rwa [show (w.alloc (itO 7 nm n a ac b bc)).heap.size=w.heap.size+1 by simp] at this)
 have C:=Lib.hid (fun w=>rword_any 7 w)
 obtain ⟨i0,hi,hz0,hz1,hz2⟩:=info_parts infoStr
 have HA:=Lib.hid (fun W (h:Below ((w.alloc (itO 7 nm n a ac b bc)).alloc (.cells #[.string (txt (It.word 7))] 9)).heap.size ((w.alloc (itO 7 nm n a ac b bc)).alloc (.cells #[.string (txt (It.word 7))] 9)) W)=>Made.of h (rend_any a ac W (by omega)))
 have HB:=Lib.hid (fun W (h:Below ((w.alloc (itO 7 nm n a ac b bc)).alloc (.cells #[.string (txt (It.word 7))] 9)).heap.size ((w.alloc (itO 7 nm n a ac b bc)).alloc (.cells #[.string (txt (It.word 7))] 9)) W)=>Made.of h (rend_any b bc W (by omega)))
 have HL:=Lib.hid (fun W v m0 xs (h:World.ownsRow W w.heap.size 9 1 v m0 xs) (hx:xs=([It.word 7,It.tipT ⟨a.data.toList,ac⟩,It.tipT ⟨b.data.toList,bc⟩]:List (List UInt8)).map str)=>rline_own (It.word 7) [It.tipT ⟨a.data.toList,ac⟩,It.tipT ⟨b.data.toList,bc⟩] W w.heap.size v m0 xs h hx (by simp) (line3_le 7 _ _ (tipT_le a ac ha) (tipT_le b bc hb)))
 clear ha hb
 go_enter Tryz.func74,Tryz.ntmps74
 go_wp2_with fail
 refine (C.out _).mono ?_;rintro e w0 ⟨rfl,rfl⟩
 go_wp2_with fail
 go_region_held3 (fun w'=>w'.cell? ⟨w.heap.size,3,none⟩ = some (.string a)∧w'.cell? ⟨w.heap.size,4,none⟩ = some (.int .u8 ac.toNat)∧w'.cell? ⟨w.heap.size,5,none⟩ = some (.string b)∧w'.cell? ⟨w.heap.size,6,none⟩ = some (.int .u8 bc.toNat))
  (refine ⟨?_,?_,?_,?_⟩ <;> (go_keep;done))
  (first
   | (go_at_call 114;(with_reducible refine (HA.out _ hacc).mono ?_);rintro e w2 ⟨rfl,hb,hacc,hz⟩;have hcell:=fun o=>hb.cell (p:=⟨w.heap.size,o,none⟩) (by first | (simp;done) | ((try simp);omega));have hz:w.heap.size+1<w2.heap.size:=by ((try simp at hz);omega))
   | (go_at_call 114;(with_reducible refine (HB.out _ hacc).mono ?_);rintro e w2 ⟨rfl,hb,hacc,hz⟩;have hcell:=fun o=>hb.cell (p:=⟨w.heap.size,o,none⟩) (by first | (simp;done) | ((try simp);omega));have hz:w.heap.size+1<w2.heap.size:=by ((try simp at hz);omega))
   | (go_at_call 114;(with_reducible refine (HA.out _ (Below.refl _ _).drew).mono ?_);rintro e w2 ⟨rfl,hb,hacc,hz⟩;have hcell:=fun o=>hb.cell (p:=⟨w.heap.size,o,none⟩) (by first | (simp;done) | ((try simp);omega));have hz:w.heap.size+1<w2.heap.size:=by ((try simp at hz);omega))
   | (go_at_call 114;(with_reducible refine (HB.out _ (Below.refl _ _).drew).mono ?_);rintro e w2 ⟨rfl,hb,hacc,hz⟩;have hcell:=fun o=>hb.cell (p:=⟨w.heap.size,o,none⟩) (by first | (simp;done) | ((try simp);omega));have hz:w.heap.size+1<w2.heap.size:=by ((try simp at hz);omega))
   | (refine step_append_lies _ (by rfl) (.tmp 54) (.tmp 63) 29 (by rfl) w.heap.size 9 i0 (.string ByteArray.empty) 1 16 Tryz.underlying29 hi hz0 hz1 hz2 rfl (by omega) (.slice (some ⟨w.heap.size+1,0,none⟩) 1 1) 1 _ (by rfl) ((HO.out _ hacc).alloc _) ⟨w2.heap.size,0,none⟩ 2 2 [.string (txt (It.tipT ⟨a.data.toList,ac⟩)),.string (txt (It.tipT ⟨b.data.toList,bc⟩))] (by rfl) (by rfl) (World.news_of_block (heap_alloc_new w2 (.cells #[.string (txt (It.tipT ⟨a.data.toList,ac⟩)),.string (txt (It.tipT ⟨b.data.toList,bc⟩))] 9))) (by simp [Value.oneCell']) (by omega) (by unfold maxLen;omega) (by omega) (by simp;omega) (w2.heap.size+1) (by simp) ?_;intro gg cap w3 hown1 hg1 hat hlt;have hbF:=Lib.hid (((hV.out.trans (hacc.mono hV2.out)).alloc (by omega) (.cells #[.string (txt (It.tipT ⟨a.data.toList,ac⟩)),.string (txt (It.tipT ⟨b.data.toList,bc⟩))] 9)).grown hg1 (by simp;omega) (fun g hg=>(((HO.out _ hacc).alloc (.cells #[.string (txt (It.tipT ⟨a.data.toList,ac⟩)),.string (txt (It.tipT ⟨b.data.toList,bc⟩))] 9)).lt g hg).1));have hcell2:=fun o=>hg1.cell_far ⟨w.heap.size,o,none⟩ (by simp;omega) (by simp [Value.ownBlock])))
 all_goals
  have LL:=Lib.hid (HL.out _ _ _ _ hown1 (by first | (simp [str];done) | simp [str,txt_of]))
  clear hown1 hg1
  go_wp2_with fail
  refine LL.out.mono ?_;rintro e w9 ⟨rfl,rfl⟩
  go_wp2_with fail
  go_ret
  exact ⟨retP HP.out.symm,hbF.out⟩
theorem riprint_9 (nm:ByteArray) (n:Int) (a:ByteArray) (ac:UInt8) (b:ByteArray) (bc:UInt8) (w:World) (hn:nm.size≤1000) (ha:a.size≤1000) :
 Calls Tryz.prog 74 #[.agg #[.int .i64 9,.string nm,.int .i64 n,.string a,.int .u8 ac.toNat,.string b,.int .u8 bc.toNat]] w fun e w'=>e=.returned (.string (txt (It.print (ofV 9 nm n a ac b bc))))∧Below w.heap.size w w':=by
 have HP:=Lib.hid (print_9 nm n a ac b bc)
 have hV:=Lib.hid (((Below.refl w.heap.size w).alloc (Nat.le_refl _) (itO 9 nm n a ac b bc)).alloc (by simp) (.cells #[.string (txt (It.word 9))] 9))
 have hV2:=Lib.hid (show w.heap.size≤((w.alloc (itO 9 nm n a ac b bc)).alloc (.cells #[.string (txt (It.word 9))] 9)).heap.size by simp;omega)
 have HO:=Lib.hid (fun W (h:Below ((w.alloc (itO 9 nm n a ac b bc)).alloc (.cells #[.string (txt (It.word 9))] 9)).heap.size ((w.alloc (itO 9 nm n a ac b bc)).alloc (.cells #[.string (txt (It.word 9))] 9)) W)=>show W.ownsRow w.heap.size 9 1 (.slice (some ⟨w.heap.size+1,0,none⟩) 1 1) 1 [.string (txt (It.word 9))] from by
  have:=ownsRow_below (World.ownsRow_lit (base:=w.heap.size) (e:=9) (size:=1) (w.alloc (itO 9 nm n a ac b bc)) #[.string (txt (It.word 9))] 1 (by simp) (by unfold maxLen;omega) rfl) h
  rwa [show (w.alloc (itO 9 nm n a ac b bc)).heap.size=w.heap.size+1 by simp] at this)
 have C:=Lib.hid (fun w=>rword_any 9 w)
 obtain ⟨i0,hi,hz0,hz1,hz2⟩:=info_parts infoStr
 have HA:=Lib.hid (fun W (h:Below ((w.alloc (itO 9 nm n a ac b bc)).alloc (.cells #[.string (txt (It.word 9))] 9)).heap.size ((w.alloc (itO 9 nm n a ac b bc)).alloc (.cells #[.string (txt (It.word 9))] 9)) W)=>Made.of h (rend_any a ac W (by omega)))
 have HL:=Lib.hid (fun W v m0 xs (h:World.ownsRow W w.heap.size 9 1 v m0 xs) (hx:xs=([It.word 9,nm.data.toList,It.tipT ⟨a.data.toList,ac⟩]:List (List UInt8)).map str)=>rline_own (It.word 9) [nm.data.toList,It.tipT ⟨a.data.toList,ac⟩] W w.heap.size v m0 xs h hx (by simp) (line3_le 9 _ _ (by simp;omega) (tipT_le a ac ha)))
 clear ha hn
 go_enter Tryz.func74,Tryz.ntmps74
 go_wp2_with fail
 refine (C.out _).mono ?_;rintro e w0 ⟨rfl,rfl⟩
 go_wp2_with fail
 go_region_held3 (fun w'=>w'.cell? ⟨w.heap.size,1,none⟩ = some (.string nm)∧w'.cell? ⟨w.heap.size,3,none⟩ = some (.string a)∧w'.cell? ⟨w.heap.size,4,none⟩ = some (.int .u8 ac.toNat))
  (refine ⟨?_,?_,?_⟩ <;> (go_keep;done))
  (first
   | (go_at_call 114;(with_reducible refine (HA.out _ (Below.refl _ _).drew).mono ?_);rintro e w2 ⟨rfl,hb,hacc,hz⟩;have hcell:=fun o=>hb.cell (p:=⟨w.heap.size,o,none⟩) (by first | (simp;done) | ((try simp);omega));have hz:w.heap.size+1<w2.heap.size:=by ((try simp at hz);omega))
   | (refine step_append_lies _ (by rfl) (.tmp 34) (.tmp 41) 29 (by rfl) w.heap.size 9 i0 (.string ByteArray.empty) 1 16 Tryz.underlying29 hi hz0 hz1 hz2 rfl (by omega) (.slice (some ⟨w.heap.size+1,0,none⟩) 1 1) 1 _ (by rfl) ((HO.out _ hacc).alloc _) ⟨w2.heap.size,0,none⟩ 2 2 [.string nm,.string (txt (It.tipT ⟨a.data.toList,ac⟩))] (by rfl) (by rfl) (World.news_of_block (heap_alloc_new w2 (.cells #[.string nm,.string (txt (It.tipT ⟨a.data.toList,ac⟩))] 9))) (by simp [Value.oneCell']) (by omega) (by unfold maxLen;omega) (by omega) (by simp;omega) (w2.heap.size+1) (by simp) ?_;intro gg cap w3 hown1 hg1 hat hlt;have hbF:=Lib.hid (((hV.out.trans (hacc.mono hV2.out)).alloc (by omega) (.cells #[.string nm,.string (txt (It.tipT ⟨a.data.toList,ac⟩))] 9)).grown hg1 (by simp;omega) (fun g hg=>(((HO.out _ hacc).alloc (.cells #[.string nm,.string (txt (It.tipT ⟨a.data.toList,ac⟩))] 9)).lt g hg).1));have hcell2:=fun o=>hg1.cell_far ⟨w.heap.size,o,none⟩ (by simp;omega) (by simp [Value.ownBlock])))
 all_goals
  have LL:=Lib.hid (HL.out _ _ _ _ hown1 (by first | (simp [str];done) | simp [str,txt_of]))
  clear hown1 hg1
  go_wp2_with fail
  refine LL.out.mono ?_;rintro e w9 ⟨rfl,rfl⟩
  go_wp2_with fail
  go_ret
  exact ⟨retP HP.out.symm,hbF.out⟩
theorem riprint_8 (nm:ByteArray) (n:Int) (a:ByteArray) (ac:UInt8) (b:ByteArray) (bc:UInt8) (w:World) (ha:a.size≤1000) :
 Calls Tryz.prog 74 #[.agg #[.int .i64 8,.string nm,.int .i64 n,.string a,.int .u8 ac.toNat,.string b,.int .u8 bc.toNat]] w fun e w'=>e=.returned (.string (txt (It.print (ofV 8 nm n a ac b bc))))∧Below w.heap.size w w':=by
 have HP:=Lib.hid (print_8 nm n a ac b bc)
 have hV:=Lib.hid (((Below.refl w.heap.size w).alloc (Nat.le_refl _) (itO 8 nm n a ac b bc)).alloc (by simp) (.cells #[.string (txt (It.word 8))] 9))
 have hV2:=Lib.hid (show w.heap.size≤((w.alloc (itO 8 nm n a ac b bc)).alloc (.cells #[.string (txt (It.word 8))] 9)).heap.size by simp;omega)
 have HO:=Lib.hid (fun W (h:Below ((w.alloc (itO 8 nm n a ac b bc)).alloc (.cells #[.string (txt (It.word 8))] 9)).heap.size ((w.alloc (itO 8 nm n a ac b bc)).alloc (.cells #[.string (txt (It.word 8))] 9)) W)=>show W.ownsRow w.heap.size 9 1 (.slice (some ⟨w.heap.size+1,0,none⟩) 1 1) 1 [.string (txt (It.word 8))] from by
  have:=ownsRow_below (World.ownsRow_lit (base:=w.heap.size) (e:=9) (size:=1) (w.alloc (itO 8 nm n a ac b bc)) #[.string (txt (It.word 8))] 1 (by simp) (by unfold maxLen;omega) rfl) h
  rwa [show (w.alloc (itO 8 nm n a ac b bc)).heap.size=w.heap.size+1 by simp] at this)
 have C:=Lib.hid (fun w=>rword_any 8 w)
 obtain ⟨i0,hi,hz0,hz1,hz2⟩:=info_parts infoStr
 have HF:=Lib.hid (fun W (h:Below ((w.alloc (itO 8 nm n a ac b bc)).alloc (.cells #[.string (txt (It.word 8))] 9)).heap.size ((w.alloc (itO 8 nm n a ac b bc)).alloc (.cells #[.string (txt (It.word 8))] 9)) W)=>Made.of h (rend_any a ac W (by omega)))
 have HL:=Lib.hid (fun W v m0 xs (h:World.ownsRow W w.heap.size 9 1 v m0 xs) (hx:xs=([It.word 8,It.tipT ⟨a.data.toList,ac⟩]:List (List UInt8)).map str)=>rline_own (It.word 8) [It.tipT ⟨a.data.toList,ac⟩] W w.heap.size v m0 xs h hx (by simp) (line2_le 8 _ (tipT_le a ac ha)))
 clear ha
 go_enter Tryz.func74,Tryz.ntmps74
 go_wp2_with fail
 refine (C.out _).mono ?_;rintro e w0 ⟨rfl,rfl⟩
 go_wp2_with fail
 refine (HF.out _ (Below.refl _ _)).mono ?_;rintro e w2 ⟨rfl,hb,hacc,hz⟩;have hcell:=(bcell hb).1;have hz:w.heap.size+1<w2.heap.size:=by ((try simp at hz);omega)
 go_wp2_with (at_builtin;go_loud (refine wpList_append_own _ rfl (.tmp 45) (.tmp 50) 29 rfl w.heap.size 9 i0 (.string ByteArray.empty) 1 16 Tryz.underlying29 hi hz0 hz1 hz2 rfl (by decide) _ _ _ rfl ((HO.out _ hacc).alloc _) ⟨w2.heap.size,0,none⟩ 1 1 [.string (txt (It.tipT ⟨a.data.toList,ac⟩))] rfl rfl (cell_one_new _ _ _) (fun x hx=>by simp at hx;subst hx;rfl) (by unfold maxLen;omega) (by omega) (by simp;omega) ?_;intro v1 w3 hown1 hg1 _))
 have hbF:=Lib.hid (((hV.out.trans (hacc.mono hV2.out)).alloc (by omega) _).grown hg1 (by simp;omega) (fun g hg=>(((HO.out _ hacc).alloc (.cells #[.string (txt (It.tipT ⟨a.data.toList,ac⟩))] 9)).lt g hg).1))
 have LL:=Lib.hid (HL.out _ _ _ _ hown1 (by first | (simp [str];done) | simp [str,txt_of]))
 clear hown1 hg1 HO HL hV hV2
 go_wp2_with fail
 refine LL.out.mono ?_;rintro e w9 ⟨rfl,rfl⟩
 go_wp2_with fail
 go_ret
 exact ⟨retP HP.out.symm,hbF.out⟩
theorem riprint_no (k:Int) (hk:¬ (1≤k∧k≤9)) (nm:ByteArray) (n:Int) (a:ByteArray) (ac:UInt8) (b:ByteArray) (bc:UInt8) (w:World) :
 Calls Tryz.prog 74 #[.agg #[.int .i64 k,.string nm,.int .i64 n,.string a,.int .u8 ac.toNat,.string b,.int .u8 bc.toNat]] w fun e w'=>e=.returned (.string (txt (It.print (ofV k nm n a ac b bc))))∧Below w.heap.size w w':=by
 have HP:=Lib.hid (ofV_k k nm n a ac b bc hk)
 have HW:=Lib.hid (show It.word k=[] from word_none (by omega) (by omega) (by omega) (by omega) (by omega) (by omega) (by omega) (by omega) (by omega))
 have hV:=Lib.hid (((Below.refl w.heap.size w).alloc (Nat.le_refl _) (itO k nm n a ac b bc)).alloc (by simp) (.cells #[.string (txt (It.word k))] 9))
 have hV2:=Lib.hid (show w.heap.size≤((w.alloc (itO k nm n a ac b bc)).alloc (.cells #[.string (txt (It.word k))] 9)).heap.size by simp;omega)
 have HO:=Lib.hid (fun W (h:Below ((w.alloc (itO k nm n a ac b bc)).alloc (.cells #[.string (txt (It.word k))] 9)).heap.size ((w.alloc (itO k nm n a ac b bc)).alloc (.cells #[.string (txt (It.word k))] 9)) W)=>show W.ownsRow w.heap.size 9 1 (.slice (some ⟨w.heap.size+1,0,none⟩) 1 1) 1 [.string (txt (It.word k))] from by
  have:=ownsRow_below (World.ownsRow_lit (base:=w.heap.size) (e:=9) (size:=1) (w.alloc (itO k nm n a ac b bc)) #[.string (txt (It.word k))] 1 (by simp) (by unfold maxLen;omega) rfl) h
  rwa [show (w.alloc (itO k nm n a ac b bc)).heap.size=w.heap.size+1 by simp] at this)
 have C:=Lib.hid (fun w=>rword_any k w)
 obtain ⟨i0,hi,hz0,hz1,hz2⟩:=info_parts infoStr
 have HL:=Lib.hid (fun W v m0 xs (h:World.ownsRow W w.heap.size 9 1 v m0 xs) (hx:xs=([It.word k]:List (List UInt8)).map str)=>rline_own (It.word k) [] W w.heap.size v m0 xs h hx (by simp) (by simp [Ln.line,Lib.join];have:=word_le k;omega))
 have h1:(k == 1)=false:=ib_f (by omega)
 have h2:(k == 2)=false:=ib_f (by omega)
 have h3:(k == 3)=false:=ib_f (by omega)
 have h4:(k == 4)=false:=ib_f (by omega)
 have h5:(k == 5)=false:=ib_f (by omega)
 have h6:(k == 6)=false:=ib_f (by omega)
 have h7:(k == 7)=false:=ib_f (by omega)
 have h8:(k == 8)=false:=ib_f (by omega)
 have h9:(k == 9)=false:=ib_f (by omega)
 have LL:=Lib.hid (HL.out _ _ _ _ (HO.out _ (Below.refl _ _)) rfl)
 clear hk
 go_enter Tryz.func74,Tryz.ntmps74
 go_wp2_with fail
 refine (C.out _).mono ?_;rintro e w0 ⟨rfl,rfl⟩
 go_wp2_with fail
 refine LL.out.mono ?_;rintro e w9 ⟨rfl,rfl⟩
 go_wp2_with fail
 go_ret
 exact ⟨retP (by rw[HP.out,HW.out];rfl),hV.out⟩
theorem riprint_any (k:Int) (nm:ByteArray) (n:Int) (a:ByteArray) (ac:UInt8) (b:ByteArray) (bc:UInt8) (w:World) (h0:0≤n) (h1:n≤9223372036854775807) (hn:nm.size≤1000) (ha:a.size≤1000) (hb:b.size≤1000) :
 Calls Tryz.prog 74 #[.agg #[.int .i64 k,.string nm,.int .i64 n,.string a,.int .u8 ac.toNat,.string b,.int .u8 bc.toNat]] w fun e w'=>e=.returned (.string (txt (It.print (ofV k nm n a ac b bc))))∧Below w.heap.size w w':=by
 by_cases hk:1≤k∧k≤9
 ·have hk':It.isNum k=true∨It.isLen k=true∨k=7∨k=8∨k=9:=by
   simp [It.isNum,It.isLen];omega
  rcases hk' with h | h | rfl | rfl | rfl
  ·exact riprint_num k h nm n a ac b bc w h0 h1
  ·exact riprint_len k h nm n a ac b bc w h0 h1 hn
  ·exact riprint_7 nm n a ac b bc w ha hb
  ·exact riprint_8 nm n a ac b bc w ha
  ·exact riprint_9 nm n a ac b bc w hn ha
 ·exact riprint_no k hk nm n a ac b bc w
def TipsTo (T:List (List UInt8)) (k:Nat) (e0 e1:It.Tp):Prop :=
 (T.take k).all It.tipOk=true∧(0<k→e0=It.tip (T.getD 0 []))∧(1<k→e1=It.tip (T.getD 1 []))∧(k≤1→e1=It.Tp.zero)
theorem row_alloc {w:World} {g:Nat} (h:g<w.heap.size) (o:Obj):(w.alloc o).heap[g]? = w.heap[g]?:=Below.heap_alloc w o g h
theorem tipsTo_0 {T:List (List UInt8)} {e0 e1:It.Tp} (h:0<T.length) (ho:It.tipOk T[0]=true) (t:TipsTo T 0 e0 e1):TipsTo T (0+1) (It.tip T[0]) e1:=by
 refine ⟨?_,fun _=>?_,fun h=>absurd h (by omega),fun _=>t.2.2.2 (by omega)⟩
 ·rw[List.take_succ_eq_append_getElem h,List.all_append];simp [ho]
 ·rw[List.getD_eq_getElem?_getD,List.getElem?_eq_getElem h];rfl
theorem tipsTo_1 {T:List (List UInt8)} {e0 e1:It.Tp} (h:1<T.length) (ho:It.tipOk T[1]=true) (t:TipsTo T 1 e0 e1):TipsTo T (1+1) e0 (It.tip T[1]):=by
 refine ⟨?_,fun _=>t.2.1 (by omega),fun _=>?_,fun h=>absurd h (by omega)⟩
 ·rw[List.take_succ_eq_append_getElem h,List.all_append,t.1];simp [ho]
 ·rw[List.getD_eq_getElem?_getD,List.getElem?_eq_getElem h];rfl
def ReadGives (p:Option It.Itm) (w:World) (e:Ending) (w':World):Prop :=
 ∃ y:It.Itm,e=.returned (.tuple #[.agg #[.int .i64 y.k,.string (txt y.name),.int .i64 y.n,.string (txt y.e0.n),.int .u8 y.e0.c.toNat,.string (txt y.e1.n),.int .u8 y.e1.c.toNat],.bool p.isSome]) ∧
   (∀ z,p=some z→y=z)∧Below w.heap.size w w'
theorem ReadGives.mk {p:Option It.Itm} {w w':World} {e:Ending} (y:It.Itm) (b:Bool) (hb:p.isSome=b) (hy:∀ z,p=some z→y=z) (he:e=.returned (.tuple #[.agg #[.int .i64 y.k,.string (txt y.name),.int .i64 y.n,.string (txt y.e0.n),.int .u8 y.e0.c.toNat,.string (txt y.e1.n),.int .u8 y.e1.c.toNat],.bool b]))
 (hw:Below w.heap.size w w'):ReadGives p w e w':=by subst hb;exact ⟨y,he,hy,hw⟩
theorem name_t (x:List UInt8) (w:World) (hs:x.length≤1000000) (b:Bool) (h:Fig.nameB x=b) :
 Calls Tryz.prog 54 #[.string (txt x)] w fun e w'=>e=.returned (.bool b)∧w=w':=by
 have:=name_any (txt x) w (by rw[txt_size];unfold maxLen;omega)
 rwa [txt_toList,h] at this
theorem strs_at {w:World} {bk o:Nat} {L:List (List UInt8)} (h:Strs w (some ⟨bk,o,none⟩) L) (k:Nat) (hk:k<L.length):bk<w.heap.size∧w.cell? ⟨bk,o+k,none⟩ = some (.string (txt L[k])):=by
 obtain ⟨a',ha,hb,hc⟩:=h.cell hk
 cases ha
 rw [Go.WideShapes.add_plain,str] at hc
 exact ⟨hb,hc⟩
theorem row7 {w:World} {g:Nat} {a b c d e f i:Value} {t:TypeId} (h:w.heap[g]? = some (.cells #[a,b,c,d,e,f,i] t (0,0))) :
 (w.cell? ⟨g,0,none⟩ = some a∧w.cell? ⟨g,1,none⟩ = some b∧w.cell? ⟨g,2,none⟩ = some c∧w.cell? ⟨g,3,none⟩ = some d∧w.cell? ⟨g,4,none⟩ = some e∧w.cell? ⟨g,5,none⟩ = some f∧w.cell? ⟨g,6,none⟩ = some i) ∧
 (w.frozen? ⟨g,0,none⟩ = false∧w.frozen? ⟨g,1,none⟩ = false∧w.frozen? ⟨g,2,none⟩ = false∧w.frozen? ⟨g,3,none⟩ = false∧w.frozen? ⟨g,4,none⟩ = false∧w.frozen? ⟨g,5,none⟩ = false∧w.frozen? ⟨g,6,none⟩ = false)∧g<w.heap.size :=
 ⟨⟨cell_of_row w g 0 _ t _ h,cell_of_row w g 1 _ t _ h,cell_of_row w g 2 _ t _ h,cell_of_row w g 3 _ t _ h,cell_of_row w g 4 _ t _ h,cell_of_row w g 5 _ t _ h,cell_of_row w g 6 _ t _ h⟩,
   ⟨frozen_of_row w g 0 _ t h,frozen_of_row w g 1 _ t h,frozen_of_row w g 2 _ t h,frozen_of_row w g 3 _ t h,frozen_of_row w g 4 _ t h,frozen_of_row w g 5 _ t h,frozen_of_row w g 6 _ t h⟩,(Array.getElem?_eq_some_iff.1 h).1⟩
theorem parseK_len {k:Int} (h:It.isLen k=true) (m d:List UInt8) (b:Bool) (hb:(Fig.nameB m && Fig.parseB d 1099511627776 && decide (0<Fig.parseN d 1099511627776))=b) :
 (It.parseK k [m,d]).isSome=b∧∀ z,It.parseK k [m,d]=some z→(⟨k,m,Fig.parseN d 1099511627776,It.Tp.zero,It.Tp.zero⟩:It.Itm)=z:=by
 subst hb
 have e:It.parseK k [m,d]=if (Fig.nameB m && Fig.parseB d 1099511627776 && decide (0<Fig.parseN d 1099511627776))=true then some ⟨k,m,Fig.parseN d 1099511627776,It.Tp.zero,It.Tp.zero⟩ else none:=by
  simp only [It.parseK,len_num h,h];rfl
 rw [e]
 split
 ·rename_i hb;rw[hb];exact ⟨rfl,fun z hz=>Option.some.inj hz⟩
 ·rename_i hb;exact ⟨by simpa using hb,fun z hz=>by cases hz⟩
theorem join_mem (c:UInt8):∀ (D:List (List UInt8)) (r x:List UInt8),x∈D++[r]→x.length≤((D.map (· ++ [c])).flatten++r).length
 | [],r,x,h=>by simp at h;subst h;simp
 | d :: D,r,x,h=>by
   rcases List.mem_cons.1 (by simpa using h:x∈d :: (D++[r])) with rfl | h2
   ·simp <;> omega
   ·have:=join_mem c D r x h2
    simp only [List.map_cons,List.flatten_cons,List.length_append] at this ⊢;omega
theorem words_le (l:List UInt8) (h:Ln.ws true l=true):∀ x∈Ln.words l,x.length≤l.length:=fun x hx=>by
 obtain ⟨hl,hne⟩:=Ln.line_words l h
 obtain ⟨D,r,hD⟩:∃ D r,Ln.words l=D++[r]:=⟨(Ln.words l).dropLast,(Ln.words l).getLast hne,(List.dropLast_concat_getLast hne).symm⟩
 have:=join_mem 32 D r x (by rw[← hD];exact hx)
 rw [hD,Ln.line,Ln.join_snoc] at hl
 rwa [hl] at this
theorem words_len (l:List UInt8):(Ln.words l).length≤l.length+1:=by
 unfold Ln.words
 split
 ·have:=Ln.st_len 32 l
  simp [Ln.cut];omega
 ·simp
theorem kind_bd (l:List UInt8):0≤It.kind l∧It.kind l≤9:=by
 rcases It.kind_cases l with ⟨h,_⟩ | ⟨h1,h2,_⟩
 ·omega
 ·omega
def ParseGives (p:Option It.Itm) (w:World) (e:Ending) (w':World):Prop :=
 ∃ y:It.Itm,e=.returned (.tuple #[.agg #[.int .i64 y.k,.string (txt y.name),.int .i64 y.n,.string (txt y.e0.n),.int .u8 y.e0.c.toNat,.string (txt y.e1.n),.int .u8 y.e1.c.toNat],.bool p.isSome]) ∧
   y=p.getD It.Itm.zero∧Below w.heap.size w w'
theorem ParseGives.no {p:Option It.Itm} {w w':World} {e:Ending} (hp:p=none) (he:e=.returned (.tuple #[.agg #[.int .i64 0,.string ⟨#[]⟩,.int .i64 0,.string ⟨#[]⟩,.int .u8 0,.string ⟨#[]⟩,.int .u8 0],.bool false])) (hw:Below w.heap.size w w'):ParseGives p w e w':=by
 subst hp;exact ⟨It.Itm.zero,he,rfl,hw⟩
theorem ParseGives.yes {p:Option It.Itm} {y:It.Itm} {w w':World} {e:Ending} (hp:p=some y) (he:e=.returned (.tuple #[.agg #[.int .i64 y.k,.string (txt y.name),.int .i64 y.n,.string (txt y.e0.n),.int .u8 y.e0.c.toNat,.string (txt y.e1.n),.int .u8 y.e1.c.toNat],.bool true])) (hw:Below w.heap.size w w'):ParseGives p w e w':=by
 subst hp;exact ⟨y,he,rfl,hw⟩
theorem parse_none {l:List UInt8} (h:Ln.ws true l=false):It.parse l=none:=by rw[It.parse,h];rfl
theorem parse_some {l x:List UInt8} {T:List (List UInt8)} {k:Int} (h:Ln.ws true l=true) (hL:Ln.words l=x :: T) (hk:It.kind x=k):It.parse l=It.parseK k T:=by rw[It.parse,if_pos h,hL,It.parseW,hk]
theorem strs_addr {w:World} {A:Option Addr} {x:List UInt8} {T:List (List UInt8)} (h:Strs w A (x :: T)):∃ bk o,A=some ⟨bk,o,none⟩:=by
 obtain ⟨a,rfl,hb,hc⟩:=h 0 x rfl
 obtain ⟨bk,o,sp⟩:=a
 obtain rfl:sp=none:=by simpa [Addr.add] using World.cell?_spot hc
 exact ⟨bk,o,rfl⟩
abbrev itZ:Obj:=.cells #[.int .i64 0,.string ⟨#[]⟩,.int .i64 0,.string ⟨#[]⟩,.int .u8 0,.string ⟨#[]⟩,.int .u8 0] 93
theorem rkind_t (x:List UInt8) (w:World) (hs:x.length≤1000000) (k:Int) (h:It.kind x=k) :
 Calls Tryz.prog 70 #[.string (txt x)] w fun e w'=>e=.returned (.int .i64 k)∧w=w':=by
 have:=rkind_any (txt x) w (by rw[txt_size];unfold maxLen;omega)
 rwa [txt_toList,h] at this
theorem rparse_t (x:List UInt8) (m:Int) (w:World) (hs:x.length≤1000000) (b:Bool) (h:Fig.parseB x m=b) :
 Calls Tryz.prog 72 #[.string (txt x),.int .i64 m] w fun e w'=>e=.returned (.tuple #[.int .i64 (Fig.parseN x m),.bool b])∧w=w':=by
 have:=rparse_any (txt x) m w (by rw[txt_size];unfold maxLen;omega)
 rwa [txt_toList,h] at this
theorem rname_t (x:List UInt8) (w:World) (hs:x.length≤1000000) (b:Bool) (h:Fig.nameB x=b) :
 Calls Tryz.prog 56 #[.string (txt x)] w fun e w'=>e=.returned (.bool b)∧w=w':=by
 have:=rname_any (txt x) w (by rw[txt_size];unfold maxLen;omega)
 rwa [txt_toList,h] at this
def HasWords (s:ByteArray) (x:List UInt8) (T:List (List UInt8)) (w:World):Prop :=
 Calls Tryz.prog 69 #[.string s] (w.alloc itZ) (GivesList (x :: T) true (w.alloc itZ))
theorem at_words {w:World} {bk o:Nat} {x:List UInt8} {T:List (List UInt8)} (h:Strs w (some ⟨bk,o,none⟩) (x :: T)):w.cell? ⟨bk,o,none⟩ = some (.string (txt x)):=(strs_at h 0 (by simp)).2
theorem rp_0 (s:ByteArray) (x:List UInt8) (T:List (List UInt8)) (hTl:T.length≤1000000) (w:World) (W:HasWords s x T w) (hk:It.kind x=0) (hx:x.length≤1000000) :
 Calls Tryz.prog 42 #[.string s] w (ParseGives (It.parseK 0 T) w):=by
 have P:=Lib.hid (show It.parseK 0 T=none from rfl)
 have hb0:=Lib.hid ((Below.refl w.heap.size w).alloc (Nat.le_refl _) itZ)
 have R0:=Lib.hid (show (w.alloc itZ).heap[w.heap.size]? = some (.cells #[.int .i64 0,.string ⟨#[]⟩,.int .i64 0,.string ⟨#[]⟩,.int .u8 0,.string ⟨#[]⟩,.int .u8 0] 93 (0,0)) from heap_alloc_new _ _)
 have C:=Lib.hid W
 have KC:=Lib.hid (fun w=>rkind_t x w hx 0 hk)
 clear W hk
 go_enter Tryz.func42,Tryz.ntmps42
 go_wp2_with fail
 refine C.out.mono ?_;rintro e w1 ⟨A,c,hc,rfl,hs1,hb1⟩
 have r0:=(hb1.block _ (show w.heap.size<(w.alloc itZ).heap.size by simp)).trans R0.out
 obtain ⟨⟨a0,a1,a2,a3,a4,a5,a6⟩,⟨f0,f1,f2,f3,f4,f5,f6⟩,hy0⟩:=row7 r0
 have Q0:=Lib.hid r0
 have hbW:=Lib.hid (hb0.out.trans (hb1.mono (by simp)))
 clear r0 hb1
 obtain ⟨bk,o,rfl⟩:=strs_addr hs1
 have hbk:=(strs_at hs1 0 (by simp)).1
 have hc00:=at_words hs1
 have n0:=World.new_ne _ _ a0
 have n1:=World.new_ne _ _ hc00
 simp only [List.length_cons] at hc
 clear hs1
 go_wp2_with fail
 refine (KC.out _).mono ?_;rintro e w' ⟨rfl,rfl⟩
 go_wp2_with fail
 all_goals
  refine bodyPost_ret ?_ rfl (ParseGives.no P.out rfl ?_)
  ·simp [results,Tryz.results42,go_sem, *]
  ·(repeat (first | (with_reducible refine Below.setCell ?_ (by first | exact Nat.le_refl _ | (simp;done) | ((try simp);omega)) _) | (with_reducible refine Below.alloc ?_ (by first | (simp;done) | ((try simp);omega)) _) | with_reducible refine Below.drew ?_));exact hbW.out
theorem rp_name_nil {k:Int} (hkk:k=5∨k=6∨k=9) (s:ByteArray) (x:List UInt8) (w:World) (W:HasWords s x [] w) (hk:It.kind x=k) (hx:x.length≤1000000) :
 Calls Tryz.prog 42 #[.string s] w (ParseGives (It.parseK k []) w):=by
 have P:=Lib.hid (show It.parseK k []=none from by rcases hkk with rfl | rfl | rfl <;> rfl)
 have hb0:=Lib.hid ((Below.refl w.heap.size w).alloc (Nat.le_refl _) itZ)
 have R0:=Lib.hid (show (w.alloc itZ).heap[w.heap.size]? = some (.cells #[.int .i64 0,.string ⟨#[]⟩,.int .i64 0,.string ⟨#[]⟩,.int .u8 0,.string ⟨#[]⟩,.int .u8 0] 93 (0,0)) from heap_alloc_new _ _)
 have C:=Lib.hid W
 have KC:=Lib.hid (fun w=>rkind_t x w hx k hk)
 clear W hk
 rcases hkk with rfl | rfl | rfl
 all_goals
  go_enter Tryz.func42,Tryz.ntmps42
  go_wp2_with fail
  refine C.out.mono ?_;rintro e w1 ⟨A,c,hc,rfl,hs1,hb1⟩
  have r0:=(hb1.block _ (show w.heap.size<(w.alloc itZ).heap.size by simp)).trans R0.out
  obtain ⟨⟨a0,a1,a2,a3,a4,a5,a6⟩,⟨f0,f1,f2,f3,f4,f5,f6⟩,hy0⟩:=row7 r0
  have Q0:=Lib.hid r0
  have hbW:=Lib.hid (hb0.out.trans (hb1.mono (by simp)))
  clear r0 hb1
  obtain ⟨bk,o,rfl⟩:=strs_addr hs1
  have hbk:=(strs_at hs1 0 (by simp)).1
  have hc00:=at_words hs1
  have n0:=World.new_ne _ _ a0
  have n1:=World.new_ne _ _ hc00
  simp only [List.length_cons] at hc
  clear hs1
  go_wp2_with fail
  refine (KC.out _).mono ?_;rintro e w' ⟨rfl,rfl⟩
  go_wp2_with fail
  all_goals
   refine bodyPost_ret ?_ rfl (ParseGives.no P.out rfl ?_)
   ·simp [results,Tryz.results42,go_sem, *]
   ·(repeat (first | (with_reducible refine Below.setCell ?_ (by first | exact Nat.le_refl _ | (simp;done) | ((try simp);omega)) _) | (with_reducible refine Below.alloc ?_ (by first | (simp;done) | ((try simp);omega)) _) | with_reducible refine Below.drew ?_));exact hbW.out
theorem parseK_bad5 {k:Int} (hk:k=5∨k=6∨k=9) {m:List UInt8} {T:List (List UInt8)} (h:Fig.nameB m=false):It.parseK k (m :: T)=none:=by
 rcases hk with rfl | rfl | rfl
 all_goals
  match T with
  | []=>rfl
  | [d]=>simp [It.parseK,It.isNum,It.isLen,h]
  | _ :: _ :: _=>rfl
theorem strs_2 {w:World} {bk o:Nat} {x m:List UInt8} {T:List (List UInt8)} (h:Strs w (some ⟨bk,o,none⟩) (x :: m :: T)):w.cell? ⟨bk,o+1,none⟩ = some (.string (txt m)):=(strs_at h 1 (by simp)).2
theorem strs_3 {w:World} {bk o:Nat} {x m d:List UInt8} {T:List (List UInt8)} (h:Strs w (some ⟨bk,o,none⟩) (x :: m :: d :: T)):w.cell? ⟨bk,o+2,none⟩ = some (.string (txt d)):=(strs_at h 2 (by simp)).2
theorem rp_name_bad {k:Int} (hkk:k=5∨k=6∨k=9) (s:ByteArray) (x:List UInt8) (m:List UInt8) (T:List (List UInt8)) (hm:m.length≤1000000) (hTl:T.length≤1000000) (hn:Fig.nameB m=false) (w:World) (W:HasWords s x (m :: T) w) (hk:It.kind x=k) (hx:x.length≤1000000) :
 Calls Tryz.prog 42 #[.string s] w (ParseGives (It.parseK k (m :: T)) w):=by
 have P:=Lib.hid (parseK_bad5 hkk (T:=T) hn)
 have N:=Lib.hid (fun w=>rname_t m w hm _ hn)
 clear hn hm
 have hb0:=Lib.hid ((Below.refl w.heap.size w).alloc (Nat.le_refl _) itZ)
 have R0:=Lib.hid (show (w.alloc itZ).heap[w.heap.size]? = some (.cells #[.int .i64 0,.string ⟨#[]⟩,.int .i64 0,.string ⟨#[]⟩,.int .u8 0,.string ⟨#[]⟩,.int .u8 0] 93 (0,0)) from heap_alloc_new _ _)
 have C:=Lib.hid W
 have KC:=Lib.hid (fun w=>rkind_t x w hx k hk)
 clear W hk
 rcases hkk with rfl | rfl | rfl
 all_goals
  go_enter Tryz.func42,Tryz.ntmps42
  go_wp2_with fail
  refine C.out.mono ?_;rintro e w1 ⟨A,c,hc,rfl,hs1,hb1⟩
  have r0:=(hb1.block _ (show w.heap.size<(w.alloc itZ).heap.size by simp)).trans R0.out
  obtain ⟨⟨a0,a1,a2,a3,a4,a5,a6⟩,⟨f0,f1,f2,f3,f4,f5,f6⟩,hy0⟩:=row7 r0
  have Q0:=Lib.hid r0
  have hbW:=Lib.hid (hb0.out.trans (hb1.mono (by simp)))
  clear r0 hb1
  obtain ⟨bk,o,rfl⟩:=strs_addr hs1
  have hbk:=(strs_at hs1 0 (by simp)).1
  have hc00:=at_words hs1
  have n0:=World.new_ne _ _ a0
  have n1:=World.new_ne _ _ hc00
  simp only [List.length_cons] at hc
  have hc01:=strs_2 hs1
  clear hs1
  go_wp2_with fail
  refine (KC.out _).mono ?_;rintro e w' ⟨rfl,rfl⟩
  go_wp2_with fail
  refine (N.out _).mono ?_;rintro e w' ⟨rfl,rfl⟩
  go_wp2_with fail
  refine bodyPost_ret ?_ rfl (ParseGives.no P.out rfl ?_)
  ·simp [results,Tryz.results42,go_sem, *]
  ·(repeat (first | (with_reducible refine Below.setCell ?_ (by first | exact Nat.le_refl _ | (simp;done) | ((try simp);omega)) _) | (with_reducible refine Below.alloc ?_ (by first | (simp;done) | ((try simp);omega)) _) | with_reducible refine Below.drew ?_));exact hbW.out
theorem parseK_many {k:Int} (hk:k=5∨k=6∨k=9) {m:List UInt8} {T:List (List UInt8)} (h:T.length≠1):It.parseK k (m :: T)=none:=by
 rcases hk with rfl | rfl | rfl
 all_goals
  match T,h with
  | [],_=>rfl
  | [d],h=>exact absurd rfl h
  | _ :: _ :: _,_=>rfl
theorem most_t (k:Int) (w:World) (h0:1≤k) (h9:k≤6) (lo hi:Int) (hl:It.least k=lo) (hh:It.most k=hi) :
 Calls Tryz.prog 71 #[.int .i64 k] w fun e w'=>e=.returned (.tuple #[.int .i64 lo,.int .i64 hi])∧w=w':=by
 subst hl hh;exact most_any k w h0 h9
theorem parseK_len_no {k:Int} (hk:It.isLen k=true) {m d:List UInt8} (_h:Fig.nameB m=true) (hp:Fig.parseB d 1099511627776=false∨decide (Fig.parseN d 1099511627776<1)=true):It.parseK k [m,d]=none:=by
 have:=(parseK_len hk m d _ rfl).1
 have e:(Fig.nameB m && Fig.parseB d 1099511627776 && decide (0<Fig.parseN d 1099511627776))=false:=by
  rcases hp with hp | hp
  ·rw[hp];simp
  ·have:=of_decide_eq_true hp
   rw [dec_f (by omega:¬ 0<Fig.parseN d 1099511627776)];simp
 rw [e] at this
 simpa using this
theorem parseK_len_yes {k:Int} (hk:It.isLen k=true) {m d:List UInt8} (h:Fig.nameB m=true) (hp:Fig.parseB d 1099511627776=true) (hl:decide (Fig.parseN d 1099511627776<1)=false):It.parseK k [m,d]=some ⟨k,m,Fig.parseN d 1099511627776,It.Tp.zero,It.Tp.zero⟩:=by
 have:=parseK_len hk m d _ rfl
 have e:(Fig.nameB m && Fig.parseB d 1099511627776 && decide (0<Fig.parseN d 1099511627776))=true:=by
  have:=of_decide_eq_false hl
  rw [h,hp,dec_t (by omega:0<Fig.parseN d 1099511627776)];rfl
 rw [e] at this
 obtain ⟨z,hz⟩:=Option.isSome_iff_exists.1 this.1
 rw [hz,this.2 z hz]
theorem rp_name_many {k:Int} (hkk:k=5∨k=6∨k=9) (s:ByteArray) (x:List UInt8) (m:List UInt8) (T:List (List UInt8)) (hm:m.length≤1000000) (hTl:T.length≤1000000) (hn:Fig.nameB m=true) (h1:T.length≠1) (w:World) (W:HasWords s x (m :: T) w) (hk:It.kind x=k) (hx:x.length≤1000000) :
 Calls Tryz.prog 42 #[.string s] w (ParseGives (It.parseK k (m :: T)) w):=by
 have P:=Lib.hid (parseK_many hkk (m:=m) h1)
 have N:=Lib.hid (fun w=>rname_t m w hm _ hn)
 have hl:((T.length:Int) != 1)=true:=by rw[bne_iff_ne];omega
 clear hn hm h1
 have hb0:=Lib.hid ((Below.refl w.heap.size w).alloc (Nat.le_refl _) itZ)
 have R0:=Lib.hid (show (w.alloc itZ).heap[w.heap.size]? = some (.cells #[.int .i64 0,.string ⟨#[]⟩,.int .i64 0,.string ⟨#[]⟩,.int .u8 0,.string ⟨#[]⟩,.int .u8 0] 93 (0,0)) from heap_alloc_new _ _)
 have C:=Lib.hid W
 have KC:=Lib.hid (fun w=>rkind_t x w hx k hk)
 clear W hk
 rcases hkk with rfl | rfl | rfl
 all_goals
  go_enter Tryz.func42,Tryz.ntmps42
  go_wp2_with fail
  refine C.out.mono ?_;rintro e w1 ⟨A,c,hc,rfl,hs1,hb1⟩
  have r0:=(hb1.block _ (show w.heap.size<(w.alloc itZ).heap.size by simp)).trans R0.out
  obtain ⟨⟨a0,a1,a2,a3,a4,a5,a6⟩,⟨f0,f1,f2,f3,f4,f5,f6⟩,hy0⟩:=row7 r0
  have Q0:=Lib.hid r0
  have hbW:=Lib.hid (hb0.out.trans (hb1.mono (by simp)))
  clear r0 hb1
  obtain ⟨bk,o,rfl⟩:=strs_addr hs1
  have hbk:=(strs_at hs1 0 (by simp)).1
  have hc00:=at_words hs1
  have n0:=World.new_ne _ _ a0
  have n1:=World.new_ne _ _ hc00
  simp only [List.length_cons] at hc
  have hc01:=strs_2 hs1
  clear hs1
  go_wp2_with fail
  refine (KC.out _).mono ?_;rintro e w' ⟨rfl,rfl⟩
  go_wp2_with fail
  refine (N.out _).mono ?_;rintro e w' ⟨rfl,rfl⟩
  go_wp2_with fail
  go_region
  all_goals go_wp2_with fail
  all_goals
   refine bodyPost_ret ?_ rfl (ParseGives.no P.out rfl ?_)
   ·simp [results,Tryz.results42,go_sem, *]
   ·(repeat (first | (with_reducible refine Below.setCell ?_ (by first | exact Nat.le_refl _ | (simp;done) | ((try simp);omega)) _) | (with_reducible refine Below.alloc ?_ (by first | (simp;done) | ((try simp);omega)) _) | with_reducible refine Below.drew ?_));exact hbW.out
theorem rp_len_one {k:Int} (hkk:k=5∨k=6) (s:ByteArray) (x:List UInt8) (m d:List UInt8) (hm:m.length≤1000000) (hd:d.length≤1000000) (hn:Fig.nameB m=true) (w:World) (W:HasWords s x [m,d] w) (hk:It.kind x=k) (hx:x.length≤1000000) :
 Calls Tryz.prog 42 #[.string s] w (ParseGives (It.parseK k [m,d]) w):=by
 have N:=Lib.hid (fun w=>rname_t m w hm _ hn)
 have MO:=Lib.hid (fun w=>most_t k w (by omega) (by omega) 1 1099511627776 (by rcases hkk with rfl | rfl <;> rfl) (by rcases hkk with rfl | rfl <;> rfl))
 cases hp:Fig.parseB d 1099511627776
 ·have P:=Lib.hid (parseK_len_no (k:=k) (by rcases hkk with rfl | rfl <;> rfl) hn (Or.inl hp))
  have PC:=Lib.hid (fun w=>rparse_t d 1099511627776 w hd _ hp)
  clear hn hm hd hp
  have hb0:=Lib.hid ((Below.refl w.heap.size w).alloc (Nat.le_refl _) itZ)
  have R0:=Lib.hid (show (w.alloc itZ).heap[w.heap.size]? = some (.cells #[.int .i64 0,.string ⟨#[]⟩,.int .i64 0,.string ⟨#[]⟩,.int .u8 0,.string ⟨#[]⟩,.int .u8 0] 93 (0,0)) from heap_alloc_new _ _)
  have C:=Lib.hid W
  have KC:=Lib.hid (fun w=>rkind_t x w hx k hk)
  clear W hk
  rcases hkk with rfl | rfl
  all_goals
   go_enter Tryz.func42,Tryz.ntmps42
   go_wp2_with fail
   refine C.out.mono ?_;rintro e w1 ⟨A,c,hc,rfl,hs1,hb1⟩
   have r0:=(hb1.block _ (show w.heap.size<(w.alloc itZ).heap.size by simp)).trans R0.out
   obtain ⟨⟨a0,a1,a2,a3,a4,a5,a6⟩,⟨f0,f1,f2,f3,f4,f5,f6⟩,hy0⟩:=row7 r0
   have Q0:=Lib.hid r0
   have hbW:=Lib.hid (hb0.out.trans (hb1.mono (by simp)))
   clear r0 hb1
   obtain ⟨bk,o,rfl⟩:=strs_addr hs1
   have hbk:=(strs_at hs1 0 (by simp)).1
   have hc00:=at_words hs1
   have n0:=World.new_ne _ _ a0
   have n1:=World.new_ne _ _ hc00
   simp only [List.length_cons] at hc
   have hc01:=strs_2 hs1
   have hc02:=strs_3 hs1
   clear hs1
   go_wp2_with fail
   refine (KC.out _).mono ?_;rintro e w' ⟨rfl,rfl⟩
   go_wp2_with fail
   refine (N.out _).mono ?_;rintro e w' ⟨rfl,rfl⟩
   go_wp2_with fail
   go_region
   all_goals go_wp2_with fail
   all_goals
    refine (MO.out _).mono ?_;rintro e w' ⟨rfl,rfl⟩
    go_wp2_with fail
    refine (PC.out _).mono ?_;rintro e w' ⟨rfl,rfl⟩
    go_wp2_with fail
    refine bodyPost_ret ?_ rfl (ParseGives.no P.out rfl ?_)
    ·simp [results,Tryz.results42,go_sem, *]
    ·(repeat (first | (with_reducible refine Below.setCell ?_ (by first | exact Nat.le_refl _ | (simp;done) | ((try simp);omega)) _) | (with_reducible refine Below.alloc ?_ (by first | (simp;done) | ((try simp);omega)) _) | with_reducible refine Below.drew ?_));exact hbW.out
 ·have PC:=Lib.hid (fun w=>rparse_t d 1099511627776 w hd _ hp)
  cases hl:decide (Fig.parseN d 1099511627776<1)
  ·have P:=Lib.hid (parseK_len_yes (k:=k) (by rcases hkk with rfl | rfl <;> rfl) hn hp hl)
   clear hn hm hd hp
   have hb0:=Lib.hid ((Below.refl w.heap.size w).alloc (Nat.le_refl _) itZ)
   have R0:=Lib.hid (show (w.alloc itZ).heap[w.heap.size]? = some (.cells #[.int .i64 0,.string ⟨#[]⟩,.int .i64 0,.string ⟨#[]⟩,.int .u8 0,.string ⟨#[]⟩,.int .u8 0] 93 (0,0)) from heap_alloc_new _ _)
   have C:=Lib.hid W
   have KC:=Lib.hid (fun w=>rkind_t x w hx k hk)
   clear W hk
   rcases hkk with rfl | rfl
   all_goals
    go_enter Tryz.func42,Tryz.ntmps42
    go_wp2_with fail
    refine C.out.mono ?_;rintro e w1 ⟨A,c,hc,rfl,hs1,hb1⟩
    have r0:=(hb1.block _ (show w.heap.size<(w.alloc itZ).heap.size by simp)).trans R0.out
    obtain ⟨⟨a0,a1,a2,a3,a4,a5,a6⟩,⟨f0,f1,f2,f3,f4,f5,f6⟩,hy0⟩:=row7 r0
    have Q0:=Lib.hid r0
    have hbW:=Lib.hid (hb0.out.trans (hb1.mono (by simp)))
    clear r0 hb1
    obtain ⟨bk,o,rfl⟩:=strs_addr hs1
    have hbk:=(strs_at hs1 0 (by simp)).1
    have hc00:=at_words hs1
    have n0:=World.new_ne _ _ a0
    have n1:=World.new_ne _ _ hc00
    simp only [List.length_cons] at hc
    have hc01:=strs_2 hs1
    have hc02:=strs_3 hs1
    clear hs1
    go_wp2_with fail
    refine (KC.out _).mono ?_;rintro e w' ⟨rfl,rfl⟩
    go_wp2_with fail
    refine (N.out _).mono ?_;rintro e w' ⟨rfl,rfl⟩
    go_wp2_with fail
    go_region
    all_goals go_wp2_with fail
    all_goals
     refine (MO.out _).mono ?_;rintro e w' ⟨rfl,rfl⟩
     go_wp2_with fail
     refine (PC.out _).mono ?_;rintro e w' ⟨rfl,rfl⟩
     go_wp2_with fail
     refine bodyPost_ret ?_ rfl (ParseGives.yes P.out rfl ?_)
     ·simp [results,Tryz.results42,go_sem, *] <;> (repeat' (first | exact rfl | apply And.intro))
     ·(repeat (first | (with_reducible refine Below.setCell ?_ (by first | exact Nat.le_refl _ | (simp;done) | ((try simp);omega)) _) | (with_reducible refine Below.alloc ?_ (by first | (simp;done) | ((try simp);omega)) _) | with_reducible refine Below.drew ?_));exact hbW.out
  ·have P:=Lib.hid (parseK_len_no (k:=k) (by rcases hkk with rfl | rfl <;> rfl) hn (Or.inr hl))
   clear hn hm hd hp
   have hb0:=Lib.hid ((Below.refl w.heap.size w).alloc (Nat.le_refl _) itZ)
   have R0:=Lib.hid (show (w.alloc itZ).heap[w.heap.size]? = some (.cells #[.int .i64 0,.string ⟨#[]⟩,.int .i64 0,.string ⟨#[]⟩,.int .u8 0,.string ⟨#[]⟩,.int .u8 0] 93 (0,0)) from heap_alloc_new _ _)
   have C:=Lib.hid W
   have KC:=Lib.hid (fun w=>rkind_t x w hx k hk)
   clear W hk
   rcases hkk with rfl | rfl
   all_goals
    go_enter Tryz.func42,Tryz.ntmps42
    go_wp2_with fail
    refine C.out.mono ?_;rintro e w1 ⟨A,c,hc,rfl,hs1,hb1⟩
    have r0:=(hb1.block _ (show w.heap.size<(w.alloc itZ).heap.size by simp)).trans R0.out
    obtain ⟨⟨a0,a1,a2,a3,a4,a5,a6⟩,⟨f0,f1,f2,f3,f4,f5,f6⟩,hy0⟩:=row7 r0
    have Q0:=Lib.hid r0
    have hbW:=Lib.hid (hb0.out.trans (hb1.mono (by simp)))
    clear r0 hb1
    obtain ⟨bk,o,rfl⟩:=strs_addr hs1
    have hbk:=(strs_at hs1 0 (by simp)).1
    have hc00:=at_words hs1
    have n0:=World.new_ne _ _ a0
    have n1:=World.new_ne _ _ hc00
    simp only [List.length_cons] at hc
    have hc01:=strs_2 hs1
    have hc02:=strs_3 hs1
    clear hs1
    go_wp2_with fail
    refine (KC.out _).mono ?_;rintro e w' ⟨rfl,rfl⟩
    go_wp2_with fail
    refine (N.out _).mono ?_;rintro e w' ⟨rfl,rfl⟩
    go_wp2_with fail
    go_region
    all_goals go_wp2_with fail
    all_goals
     refine (MO.out _).mono ?_;rintro e w' ⟨rfl,rfl⟩
     go_wp2_with fail
     refine (PC.out _).mono ?_;rintro e w' ⟨rfl,rfl⟩
     go_wp2_with fail
     refine bodyPost_ret ?_ rfl (ParseGives.no P.out rfl ?_)
     ·simp [results,Tryz.results42,go_sem, *]
     ·(repeat (first | (with_reducible refine Below.setCell ?_ (by first | exact Nat.le_refl _ | (simp;done) | ((try simp);omega)) _) | (with_reducible refine Below.alloc ?_ (by first | (simp;done) | ((try simp);omega)) _) | with_reducible refine Below.drew ?_));exact hbW.out
theorem parseN_nn (l:List UInt8) (m:Int):0≤Fig.parseN l m:=by
 unfold Fig.parseN
 split
 ·rename_i h
  simp only [Fig.parseB,Fig.form,Bool.and_eq_true] at h
  exact (Fig.val_bd l h.1.2).1
 ·exact Int.le_refl 0
theorem parseK_num_many {k:Int} (hk:k=1∨k=2∨k=3∨k=4∨k=8) {T:List (List UInt8)} (h:T.length≠1):It.parseK k T=none:=by
 rcases hk with rfl | rfl | rfl | rfl | rfl
 all_goals
  match T,h with
  | [],_=>rfl
  | [d],h=>exact absurd rfl h
  | _ :: _ :: _,_=>rfl
theorem parseK_7_many {T:List (List UInt8)} (h:T.length≠2):It.parseK 7 T=none:=by
 match T,h with
 | [],_=>rfl
 | [d],_=>rfl
 | [_,_],h=>exact absurd rfl h
 | _ :: _ :: _ :: _,_=>rfl
theorem parseK_num_yes {k:Int} (hk:It.isNum k=true) {d:List UInt8} {m:Int} (hm:It.most k=m) (hp:Fig.parseB d m=true):It.parseK k [d]=some ⟨k,[],Fig.parseN d m,It.Tp.zero,It.Tp.zero⟩:=by
 subst hm;simp [It.parseK,hk,hp]
theorem parseK_num_no {k:Int} (hk:It.isNum k=true) {d:List UInt8} {m:Int} (hm:It.most k=m) (hp:Fig.parseB d m=false):It.parseK k [d]=none:=by
 subst hm;simp [It.parseK,hk,hp]
theorem rp_num_many {k:Int} (hkk:k=1∨k=2∨k=3∨k=4∨k=8) (s:ByteArray) (x:List UInt8) (T:List (List UInt8)) (hTl:T.length≤1000000) (h1:T.length≠1) (w:World) (W:HasWords s x T w) (hk:It.kind x=k) (hx:x.length≤1000000) :
 Calls Tryz.prog 42 #[.string s] w (ParseGives (It.parseK k T) w):=by
 have P:=Lib.hid (parseK_num_many hkk h1)
 have hl:((T.length:Int) != 1)=true:=by rw[bne_iff_ne];omega
 clear h1
 have hb0:=Lib.hid ((Below.refl w.heap.size w).alloc (Nat.le_refl _) itZ)
 have R0:=Lib.hid (show (w.alloc itZ).heap[w.heap.size]? = some (.cells #[.int .i64 0,.string ⟨#[]⟩,.int .i64 0,.string ⟨#[]⟩,.int .u8 0,.string ⟨#[]⟩,.int .u8 0] 93 (0,0)) from heap_alloc_new _ _)
 have C:=Lib.hid W
 have KC:=Lib.hid (fun w=>rkind_t x w hx k hk)
 clear W hk
 rcases hkk with rfl | rfl | rfl | rfl | rfl
 all_goals
  go_enter Tryz.func42,Tryz.ntmps42
  go_wp2_with fail
  refine C.out.mono ?_;rintro e w1 ⟨A,c,hc,rfl,hs1,hb1⟩
  have r0:=(hb1.block _ (show w.heap.size<(w.alloc itZ).heap.size by simp)).trans R0.out
  obtain ⟨⟨a0,a1,a2,a3,a4,a5,a6⟩,⟨f0,f1,f2,f3,f4,f5,f6⟩,hy0⟩:=row7 r0
  have Q0:=Lib.hid r0
  have hbW:=Lib.hid (hb0.out.trans (hb1.mono (by simp)))
  clear r0 hb1
  obtain ⟨bk,o,rfl⟩:=strs_addr hs1
  have hbk:=(strs_at hs1 0 (by simp)).1
  have hc00:=at_words hs1
  have n0:=World.new_ne _ _ a0
  have n1:=World.new_ne _ _ hc00
  simp only [List.length_cons] at hc
  clear hs1
  go_wp2_with fail
  refine (KC.out _).mono ?_;rintro e w' ⟨rfl,rfl⟩
  go_wp2_with fail
  all_goals
   refine bodyPost_ret ?_ rfl (ParseGives.no P.out rfl ?_)
   ·simp [results,Tryz.results42,go_sem, *]
   ·(repeat (first | (with_reducible refine Below.setCell ?_ (by first | exact Nat.le_refl _ | (simp;done) | ((try simp);omega)) _) | (with_reducible refine Below.alloc ?_ (by first | (simp;done) | ((try simp);omega)) _) | with_reducible refine Below.drew ?_));exact hbW.out
theorem rp_7_many (s:ByteArray) (x:List UInt8) (T:List (List UInt8)) (hTl:T.length≤1000000) (h1:T.length≠2) (w:World) (W:HasWords s x T w) (hk:It.kind x=7) (hx:x.length≤1000000) :
 Calls Tryz.prog 42 #[.string s] w (ParseGives (It.parseK 7 T) w):=by
 have P:=Lib.hid (parseK_7_many h1)
 have hl:((T.length:Int) != 2)=true:=by rw[bne_iff_ne];omega
 clear h1
 have hb0:=Lib.hid ((Below.refl w.heap.size w).alloc (Nat.le_refl _) itZ)
 have R0:=Lib.hid (show (w.alloc itZ).heap[w.heap.size]? = some (.cells #[.int .i64 0,.string ⟨#[]⟩,.int .i64 0,.string ⟨#[]⟩,.int .u8 0,.string ⟨#[]⟩,.int .u8 0] 93 (0,0)) from heap_alloc_new _ _)
 have C:=Lib.hid W
 have KC:=Lib.hid (fun w=>rkind_t x w hx 7 hk)
 clear W hk
 go_enter Tryz.func42,Tryz.ntmps42
 go_wp2_with fail
 refine C.out.mono ?_;rintro e w1 ⟨A,c,hc,rfl,hs1,hb1⟩
 have r0:=(hb1.block _ (show w.heap.size<(w.alloc itZ).heap.size by simp)).trans R0.out
 obtain ⟨⟨a0,a1,a2,a3,a4,a5,a6⟩,⟨f0,f1,f2,f3,f4,f5,f6⟩,hy0⟩:=row7 r0
 have Q0:=Lib.hid r0
 have hbW:=Lib.hid (hb0.out.trans (hb1.mono (by simp)))
 clear r0 hb1
 obtain ⟨bk,o,rfl⟩:=strs_addr hs1
 have hbk:=(strs_at hs1 0 (by simp)).1
 have hc00:=at_words hs1
 have n0:=World.new_ne _ _ a0
 have n1:=World.new_ne _ _ hc00
 simp only [List.length_cons] at hc
 clear hs1
 go_wp2_with fail
 refine (KC.out _).mono ?_;rintro e w' ⟨rfl,rfl⟩
 go_wp2_with fail
 all_goals
  refine bodyPost_ret ?_ rfl (ParseGives.no P.out rfl ?_)
  ·simp [results,Tryz.results42,go_sem, *]
  ·(repeat (first | (with_reducible refine Below.setCell ?_ (by first | exact Nat.le_refl _ | (simp;done) | ((try simp);omega)) _) | (with_reducible refine Below.alloc ?_ (by first | (simp;done) | ((try simp);omega)) _) | with_reducible refine Below.drew ?_));exact hbW.out
theorem rp_num_one {k:Int} (hkk:k=1∨k=2) (s:ByteArray) (x:List UInt8) (d:List UInt8) (hd:d.length≤1000000) (w:World) (W:HasWords s x [d] w) (hk:It.kind x=k) (hx:x.length≤1000000) :
 Calls Tryz.prog 42 #[.string s] w (ParseGives (It.parseK k [d]) w):=by
 have MO:=Lib.hid (fun w=>most_t k w (by omega) (by omega) 0 1099511627776 (by rcases hkk with rfl | rfl <;> rfl) (by rcases hkk with rfl | rfl <;> rfl))
 have hl:decide (Fig.parseN d 1099511627776<0)=false:=dec_f (by have:=parseN_nn d 1099511627776;omega)
 cases hp:Fig.parseB d 1099511627776
 ·have P:=Lib.hid (parseK_num_no (k:=k) (by rcases hkk with rfl | rfl <;> rfl) (by rcases hkk with rfl | rfl <;> rfl) hp)
  have PC:=Lib.hid (fun w=>rparse_t d 1099511627776 w hd _ hp)
  clear hd hp
  have hb0:=Lib.hid ((Below.refl w.heap.size w).alloc (Nat.le_refl _) itZ)
  have R0:=Lib.hid (show (w.alloc itZ).heap[w.heap.size]? = some (.cells #[.int .i64 0,.string ⟨#[]⟩,.int .i64 0,.string ⟨#[]⟩,.int .u8 0,.string ⟨#[]⟩,.int .u8 0] 93 (0,0)) from heap_alloc_new _ _)
  have C:=Lib.hid W
  have KC:=Lib.hid (fun w=>rkind_t x w hx k hk)
  clear W hk
  rcases hkk with rfl | rfl
  all_goals
   go_enter Tryz.func42,Tryz.ntmps42
   go_wp2_with fail
   refine C.out.mono ?_;rintro e w1 ⟨A,c,hc,rfl,hs1,hb1⟩
   have r0:=(hb1.block _ (show w.heap.size<(w.alloc itZ).heap.size by simp)).trans R0.out
   obtain ⟨⟨a0,a1,a2,a3,a4,a5,a6⟩,⟨f0,f1,f2,f3,f4,f5,f6⟩,hy0⟩:=row7 r0
   have Q0:=Lib.hid r0
   have hbW:=Lib.hid (hb0.out.trans (hb1.mono (by simp)))
   clear r0 hb1
   obtain ⟨bk,o,rfl⟩:=strs_addr hs1
   have hbk:=(strs_at hs1 0 (by simp)).1
   have hc00:=at_words hs1
   have n0:=World.new_ne _ _ a0
   have n1:=World.new_ne _ _ hc00
   simp only [List.length_cons] at hc
   have hc01:=strs_2 hs1
   clear hs1
   go_wp2_with fail
   refine (KC.out _).mono ?_;rintro e w' ⟨rfl,rfl⟩
   go_wp2_with fail
   refine (MO.out _).mono ?_;rintro e w' ⟨rfl,rfl⟩
   go_wp2_with fail
   refine (PC.out _).mono ?_;rintro e w' ⟨rfl,rfl⟩
   go_wp2_with fail
   refine bodyPost_ret ?_ rfl (ParseGives.no P.out rfl ?_)
   ·simp [results,Tryz.results42,go_sem, *]
   ·(repeat (first | (with_reducible refine Below.setCell ?_ (by first | exact Nat.le_refl _ | (simp;done) | ((try simp);omega)) _) | (with_reducible refine Below.alloc ?_ (by first | (simp;done) | ((try simp);omega)) _) | with_reducible refine Below.drew ?_));exact hbW.out
 ·have PC:=Lib.hid (fun w=>rparse_t d 1099511627776 w hd _ hp)
  have P:=Lib.hid (parseK_num_yes (k:=k) (by rcases hkk with rfl | rfl <;> rfl) (by rcases hkk with rfl | rfl <;> rfl) hp)
  clear hd hp
  have hb0:=Lib.hid ((Below.refl w.heap.size w).alloc (Nat.le_refl _) itZ)
  have R0:=Lib.hid (show (w.alloc itZ).heap[w.heap.size]? = some (.cells #[.int .i64 0,.string ⟨#[]⟩,.int .i64 0,.string ⟨#[]⟩,.int .u8 0,.string ⟨#[]⟩,.int .u8 0] 93 (0,0)) from heap_alloc_new _ _)
  have C:=Lib.hid W
  have KC:=Lib.hid (fun w=>rkind_t x w hx k hk)
  clear W hk
  rcases hkk with rfl | rfl
  all_goals
   go_enter Tryz.func42,Tryz.ntmps42
   go_wp2_with fail
   refine C.out.mono ?_;rintro e w1 ⟨A,c,hc,rfl,hs1,hb1⟩
   have r0:=(hb1.block _ (show w.heap.size<(w.alloc itZ).heap.size by simp)).trans R0.out
   obtain ⟨⟨a0,a1,a2,a3,a4,a5,a6⟩,⟨f0,f1,f2,f3,f4,f5,f6⟩,hy0⟩:=row7 r0
   have Q0:=Lib.hid r0
   have hbW:=Lib.hid (hb0.out.trans (hb1.mono (by simp)))
   clear r0 hb1
   obtain ⟨bk,o,rfl⟩:=strs_addr hs1
   have hbk:=(strs_at hs1 0 (by simp)).1
   have hc00:=at_words hs1
   have n0:=World.new_ne _ _ a0
   have n1:=World.new_ne _ _ hc00
   simp only [List.length_cons] at hc
   have hc01:=strs_2 hs1
   clear hs1
   go_wp2_with fail
   refine (KC.out _).mono ?_;rintro e w' ⟨rfl,rfl⟩
   go_wp2_with fail
   refine (MO.out _).mono ?_;rintro e w' ⟨rfl,rfl⟩
   go_wp2_with fail
   refine (PC.out _).mono ?_;rintro e w' ⟨rfl,rfl⟩
   go_wp2_with fail
   refine bodyPost_ret ?_ rfl (ParseGives.yes P.out rfl ?_)
   ·simp [results,Tryz.results42,go_sem, *] <;> (repeat' (first | exact rfl | apply And.intro))
   ·(repeat (first | (with_reducible refine Below.setCell ?_ (by first | exact Nat.le_refl _ | (simp;done) | ((try simp);omega)) _) | (with_reducible refine Below.alloc ?_ (by first | (simp;done) | ((try simp);omega)) _) | with_reducible refine Below.drew ?_));exact hbW.out
theorem rp_tick_one {k:Int} (hkk:k=3∨k=4) (s:ByteArray) (x:List UInt8) (d:List UInt8) (hd:d.length≤1000000) (w:World) (W:HasWords s x [d] w) (hk:It.kind x=k) (hx:x.length≤1000000) :
 Calls Tryz.prog 42 #[.string s] w (ParseGives (It.parseK k [d]) w):=by
 have MO:=Lib.hid (fun w=>most_t k w (by omega) (by omega) 0 1000 (by rcases hkk with rfl | rfl <;> rfl) (by rcases hkk with rfl | rfl <;> rfl))
 have hl:decide (Fig.parseN d 1000<0)=false:=dec_f (by have:=parseN_nn d 1000;omega)
 cases hp:Fig.parseB d 1000
 ·have P:=Lib.hid (parseK_num_no (k:=k) (by rcases hkk with rfl | rfl <;> rfl) (by rcases hkk with rfl | rfl <;> rfl) hp)
  have PC:=Lib.hid (fun w=>rparse_t d 1000 w hd _ hp)
  clear hd hp
  have hb0:=Lib.hid ((Below.refl w.heap.size w).alloc (Nat.le_refl _) itZ)
  have R0:=Lib.hid (show (w.alloc itZ).heap[w.heap.size]? = some (.cells #[.int .i64 0,.string ⟨#[]⟩,.int .i64 0,.string ⟨#[]⟩,.int .u8 0,.string ⟨#[]⟩,.int .u8 0] 93 (0,0)) from heap_alloc_new _ _)
  have C:=Lib.hid W
  have KC:=Lib.hid (fun w=>rkind_t x w hx k hk)
  clear W hk
  rcases hkk with rfl | rfl
  all_goals
   go_enter Tryz.func42,Tryz.ntmps42
   go_wp2_with fail
   refine C.out.mono ?_;rintro e w1 ⟨A,c,hc,rfl,hs1,hb1⟩
   have r0:=(hb1.block _ (show w.heap.size<(w.alloc itZ).heap.size by simp)).trans R0.out
   obtain ⟨⟨a0,a1,a2,a3,a4,a5,a6⟩,⟨f0,f1,f2,f3,f4,f5,f6⟩,hy0⟩:=row7 r0
   have Q0:=Lib.hid r0
   have hbW:=Lib.hid (hb0.out.trans (hb1.mono (by simp)))
   clear r0 hb1
   obtain ⟨bk,o,rfl⟩:=strs_addr hs1
   have hbk:=(strs_at hs1 0 (by simp)).1
   have hc00:=at_words hs1
   have n0:=World.new_ne _ _ a0
   have n1:=World.new_ne _ _ hc00
   simp only [List.length_cons] at hc
   have hc01:=strs_2 hs1
   clear hs1
   go_wp2_with fail
   refine (KC.out _).mono ?_;rintro e w' ⟨rfl,rfl⟩
   go_wp2_with fail
   refine (MO.out _).mono ?_;rintro e w' ⟨rfl,rfl⟩
   go_wp2_with fail
   refine (PC.out _).mono ?_;rintro e w' ⟨rfl,rfl⟩
   go_wp2_with fail
   refine bodyPost_ret ?_ rfl (ParseGives.no P.out rfl ?_)
   ·simp [results,Tryz.results42,go_sem, *]
   ·(repeat (first | (with_reducible refine Below.setCell ?_ (by first | exact Nat.le_refl _ | (simp;done) | ((try simp);omega)) _) | (with_reducible refine Below.alloc ?_ (by first | (simp;done) | ((try simp);omega)) _) | with_reducible refine Below.drew ?_));exact hbW.out
 ·have PC:=Lib.hid (fun w=>rparse_t d 1000 w hd _ hp)
  have P:=Lib.hid (parseK_num_yes (k:=k) (by rcases hkk with rfl | rfl <;> rfl) (by rcases hkk with rfl | rfl <;> rfl) hp)
  clear hd hp
  have hb0:=Lib.hid ((Below.refl w.heap.size w).alloc (Nat.le_refl _) itZ)
  have R0:=Lib.hid (show (w.alloc itZ).heap[w.heap.size]? = some (.cells #[.int .i64 0,.string ⟨#[]⟩,.int .i64 0,.string ⟨#[]⟩,.int .u8 0,.string ⟨#[]⟩,.int .u8 0] 93 (0,0)) from heap_alloc_new _ _)
  have C:=Lib.hid W
  have KC:=Lib.hid (fun w=>rkind_t x w hx k hk)
  clear W hk
  rcases hkk with rfl | rfl
  all_goals
   go_enter Tryz.func42,Tryz.ntmps42
   go_wp2_with fail
   refine C.out.mono ?_;rintro e w1 ⟨A,c,hc,rfl,hs1,hb1⟩
   have r0:=(hb1.block _ (show w.heap.size<(w.alloc itZ).heap.size by simp)).trans R0.out
   obtain ⟨⟨a0,a1,a2,a3,a4,a5,a6⟩,⟨f0,f1,f2,f3,f4,f5,f6⟩,hy0⟩:=row7 r0
   have Q0:=Lib.hid r0
   have hbW:=Lib.hid (hb0.out.trans (hb1.mono (by simp)))
   clear r0 hb1
   obtain ⟨bk,o,rfl⟩:=strs_addr hs1
   have hbk:=(strs_at hs1 0 (by simp)).1
   have hc00:=at_words hs1
   have n0:=World.new_ne _ _ a0
   have n1:=World.new_ne _ _ hc00
   simp only [List.length_cons] at hc
   have hc01:=strs_2 hs1
   clear hs1
   go_wp2_with fail
   refine (KC.out _).mono ?_;rintro e w' ⟨rfl,rfl⟩
   go_wp2_with fail
   refine (MO.out _).mono ?_;rintro e w' ⟨rfl,rfl⟩
   go_wp2_with fail
   refine (PC.out _).mono ?_;rintro e w' ⟨rfl,rfl⟩
   go_wp2_with fail
   refine bodyPost_ret ?_ rfl (ParseGives.yes P.out rfl ?_)
   ·simp [results,Tryz.results42,go_sem, *] <;> (repeat' (first | exact rfl | apply And.intro))
   ·(repeat (first | (with_reducible refine Below.setCell ?_ (by first | exact Nat.le_refl _ | (simp;done) | ((try simp);omega)) _) | (with_reducible refine Below.alloc ?_ (by first | (simp;done) | ((try simp);omega)) _) | with_reducible refine Below.drew ?_));exact hbW.out
end Go.Proofs.YtncphjodaklleaaGreat
