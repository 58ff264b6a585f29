/-
  Texts of this claim, merged: PlFacts, PlWork, PlRank, PlRankB, PlDr, PlList.
-/
import Derived.Test.YtpdfbnolhpakoaaGreatMg01
namespace Go.Proofs.YtpdfbnolhpakoaaGreat.Pl
open Go It
section
variable {L : List Itm} (hL : Ok L) (hS : Shut L)
include hL
theorem secs_at {i:Nat} {s:Sec} (h:(fin L).secs[i]? = some s):∃ x,(SS L)[i]? = some x∧x ∈ secs L∧plS L x = i∧rank (nmS L) x.name = i∧s = fS L x:=by
  rw [fin_secs,List.getElem?_map,Option.map_eq_some_iff] at h
  obtain ⟨x,hx,rfl⟩:=h
  obtain ⟨h1,h2⟩:=SS_pl hL hx
  exact ⟨x,hx,h1,by unfold plS;omega,h2,rfl⟩
theorem secs_pl {x:Itm} (hx:x ∈ secs L):(fin L).secs[plS L x]? = some (fS L x):=by
  rw [fin_secs,List.getElem?_map,SS_at hL hx];rfl
theorem sigs_at {i:Nat} {g:Sig} (h:(fin L).sigs[i]? = some g):∃ x,(GG L)[i]? = some x∧x ∈ sigs L∧plG L x = i∧rank (nmG L) x.name = i∧g = sigW (rank (nmS L)) L x:=by
  rw [fin_sigs,List.getElem?_map,Option.map_eq_some_iff] at h
  obtain ⟨x,hx,rfl⟩:=h
  have hx':=GG_mem.1 (List.mem_of_getElem? hx)
  have hr:rank (nmG L) x.name = i:=by
    rw [show nmG L = (sigs L).map Itm.name from rfl,← rank_perm ((GG_perm L).map Itm.name)]
    exact rank_at (rise_map (GG_rise hL)) i _ (by rw [List.getElem?_map,hx];rfl)
  exact ⟨x,hx,hx',by unfold plG;omega,hr,rfl⟩
theorem sigs_pl {x:Itm} (hx:x ∈ sigs L):(fin L).sigs[plG L x]? = some (sigW (rank (nmS L)) L x):=by
  rw [fin_sigs,List.getElem?_map,GG_at hL hx];rfl
omit hL in
theorem secs_len:(fin L).secs.length = (secs L).length:=by rw [fin_secs,List.length_map];exact isort_len _ _
omit hL in
theorem sigs_len:(fin L).sigs.length = (sigs L).length:=by rw [fin_sigs,List.length_map];exact isort_len _ _
theorem plain_end {i:Nat} {s:Sec} (h:(fin L).secs[i]? = some s) (hp:s.pt = false):s.e2 = stop:=by
  obtain ⟨x,_,_,_,_,rfl⟩:=secs_at hL h
  show (if isPt x then _ else stop) = stop
  have:isPt x = false:=hp
  rw [this];rfl
include hS
theorem end_cases {i e:Nat} {s:Sec} (h:(fin L).secs[i]? = some s) (he:e<3) :
    s.get e = stop ∨
    (∃ x,x ∈ secs L∧e<nEnds (isPt x)∧plS L x = i∧s = fS L x∧partner L (tip x e) = some none∧(s.get e).goes = -1∧(s.get e).at_ = 0∧(s.get e).sig = -1) ∨
    (∃ (x:Itm) (j f:Nat) (t:Sec),x ∈ secs L∧e<nEnds (isPt x)∧plS L x = i∧s = fS L x∧(fin L).secs[j]? = some t∧f<3∧(s.get e).goes = (j:Int)∧(s.get e).at_ = (f:Int)∧(t.get f).goes = (i:Int)∧(t.get f).at_ = (e:Int) ∧
      ((s.get e).sig = -1∨∃ (k:Nat) (g:Sig),(fin L).sigs[k]? = some g∧(s.get e).sig = (k:Int)∧g.sec = (i:Int)∧g.en = (e:Int))):=by
  obtain ⟨x,hx,hxs,hpl,hrk,rfl⟩:=secs_at hL h
  by_cases hen:e<nEnds (isPt x)
  · right
    have ha:(i,e) ∈ endsP (fin L):=mem_endsP.2 ⟨x,hx,hen⟩
    have hta:ta L (i,e) = tip x e:=tipP_eq hx
    have hg:(fS L x).get e = enP (fin L) (i,e):=by rw [enP_eq hx hen,get_fS hen]
    have hne:=ta_partner hL hS ha
    have hsg:∀ u,sigAt L (tip x e) = some u→∃ y ∈ sigs L,y.e0 = tip x e∧y.name = u∧∃ v,partner L (tip x e) = some (some v):=fun u hu=>by
      obtain ⟨y,hy,h1,h2⟩:=sigAt_some hu
      refine ⟨y,hy,h1,h2,?_⟩
      have:=hS y (mem_sigs.1 hy).1
      unfold lackErr at this
      rw [if_neg (by rw [(sig_facts (mem_sigs.1 hy).2).2.1];simp),if_pos (mem_sigs.1 hy).2,h1] at this
      cases hp:partner L (tip x e) with
      | none=>rw [hp] at this;cases this
      | some v =>
        cases v with
        | none=>rw [hp] at this;cases this
        | some v=>exact ⟨v,rfl⟩
    cases hp:partner L (ta L (i,e)) with
    | none=>exact absurd hp hne
    | some v =>
      cases v with
      | none =>
        left
        obtain ⟨h1,h2⟩:=en_stop ha hp
        rw [hta] at hp
        refine ⟨x,hxs,hen,hpl,rfl,hp,by rw [hg];exact h1,by rw [hg];exact h2,?_⟩
        rw [get_fS hen]
        show (match sigAt L (tip x e) with | some g=>rank (nmG L) g | none=>-1) = -1
        cases hs:sigAt L (tip x e) with
        | none=>rfl
        | some u =>
          obtain ⟨_,_,_,_,v,hv⟩:=hsg u hs
          rw [hp] at hv;cases hv
      | some u =>
        right
        obtain ⟨b,hb,rfl⟩:=ta_ments hL (partner_ments (t:=u) (by rw [(partner_sym hL.ments hp).1];simp))
        obtain ⟨h1,h2⟩:=en_join hL ha hb hp
        obtain ⟨h3,h4⟩:=en_join hL hb ha (partner_sym hL.ments hp).1
        obtain ⟨j,f⟩:=b
        obtain ⟨y,hy,hf⟩:=mem_endsP.1 hb
        have hf3:f<3:=by
          have:nEnds (isPt y)≤3:=by unfold nEnds;split <;> omega
          exact Nat.lt_of_lt_of_le hf this
        have hgy:(fS L y).get f = enP (fin L) (j,f):=by rw [enP_eq hy hf,get_fS hf]
        refine ⟨x,j,f,fS L y,hxs,hen,hpl,rfl,by rw [fin_secs,List.getElem?_map,hy];rfl,hf3,by rw [hg];exact h1,by rw [hg];exact h2,by rw [hgy];exact h3,by rw [hgy];exact h4,?_⟩
        rw [get_fS hen]
        show ((match sigAt L (tip x e) with | some g=>rank (nmG L) g | none=>-1) = -1)∨∃ k g,_∧(match sigAt L (tip x e) with | some g=>rank (nmG L) g | none=>-1) = _∧_
        cases hs:sigAt L (tip x e) with
        | none=>exact .inl rfl
        | some u =>
          obtain ⟨z,hz,h5,h6,_⟩:=hsg u hs
          refine .inr ⟨plG L z,_,sigs_pl hL hz,?_,?_,?_⟩
          · show rank (nmG L) u = _
            rw [← h6]
            have:=rank_nonneg (nmG L) z.name
            unfold plG;omega
          · show rank (nmS L) z.e0.n = _
            rw [h5];exact hrk
          · show (((endAt (ptOf L z.e0.n) z.e0.c).getD 0:Nat):Int) = _
            rw [h5,tip_at hL hxs hen];rfl
  · left
    unfold Sec.get
    have hp:isPt x = false:=by
      cases hp:isPt x with
      | false=>rfl
      | true=>rw [hp] at hen;exact absurd he hen
    have h2:e = 2:=by rw [hp] at hen;simp [nEnds] at hen;omega
    subst h2
    show (if isPt x then _ else stop) = stop
    rw [hp];rfl
omit hS in
theorem sig_cases {i:Nat} {g:Sig} (h:(fin L).sigs[i]? = some g):∃ (j f:Nat) (t:Sec),(fin L).secs[j]? = some t∧f<3∧g.sec = (j:Int)∧g.en = (f:Int)∧(t.get f).sig = (i:Int):=by
  obtain ⟨x,hx,hxs,_,hrk,rfl⟩:=sigs_at hL h
  have h9:=(sig_facts (mem_sigs.1 hxs).2).2.2.2.2
  obtain ⟨y,hy,f,hf,ht⟩:=told_all hL (mem_sigs.1 hxs).1 (t:=x.e0) (by unfold tips;rw [if_neg (by omega),if_neg (by omega),if_pos h9];simp)
  have hf3:f<3:=by
    have:nEnds (isPt y)≤3:=by unfold nEnds;split <;> omega
    exact Nat.lt_of_lt_of_le hf this
  refine ⟨plS L y,f,_,secs_pl hL hy,hf3,?_,?_,?_⟩
  · show rank (nmS L) x.e0.n = _
    rw [ht]
    have:=rank_nonneg (nmS L) y.name
    show rank (nmS L) y.name = _
    unfold plS;omega
  · show (((endAt (ptOf L x.e0.n) x.e0.c).getD 0:Nat):Int) = _
    rw [ht,tip_at hL hy hf];rfl
  · rw [get_fS hf]
    show (match sigAt L (tip y f) with | some g=>rank (nmG L) g | none=>-1) = _
    rw [← ht,sigAt_eq hL.gends hxs]
    exact hrk
end
def find (l:List Sec) (nm:Nm):Int:=match l.findIdx? fun s=>decide (s.name = nm) with | some i=>(i:Int) | none=>-1
theorem find_none {l:List Sec} {nm:Nm} (h:∀ s ∈ l,s.name ≠ nm):find l nm = -1:=by
  unfold find
  rw [List.findIdx?_eq_none_iff.2 fun s hs=>by simpa using h s hs]
theorem find_at {l:List Sec} {nm:Nm} {i:Nat} {s:Sec} (h:l[i]? = some s) (hn:s.name = nm) (h0:∀ j<i,∀ t,l[j]? = some t→t.name ≠ nm):find l nm = i:=by
  unfold find
  have:l.findIdx? (fun s=>decide (s.name = nm)) = some i:=by
    rw [List.findIdx?_eq_some_iff_getElem]
    obtain ⟨hi,rfl⟩:=List.getElem?_eq_some_iff.1 h
    exact ⟨hi,by simpa using hn,fun j hj=>by simpa using h0 j hj _ (List.getElem?_eq_getElem (by omega))⟩
  rw [this]
theorem find_cases (l:List Sec) (nm:Nm):(find l nm = -1∧∀ s ∈ l,s.name ≠ nm)∨∃ i s,find l nm = (i:Nat)∧l[i]? = some s∧s.name = nm:=by
  cases h:l.findIdx? fun s=>decide (s.name = nm) with
  | none=>exact .inl ⟨by unfold find;rw [h],fun s hs=>by simpa using List.findIdx?_eq_none_iff.1 h s hs⟩
  | some i =>
    obtain ⟨hi,h1,_⟩:=List.findIdx?_eq_some_iff_getElem.1 h
    exact .inr ⟨i,l[i],by unfold find;rw [h],List.getElem?_eq_getElem hi,by simpa using h1⟩
theorem tipErr_in (M:List Itm) (used:List Tp) (t:Tp):tipErr M used t = 0∨tipErr M used t = 4∨tipErr M used t = 5∨tipErr M used t = 6:=by
  unfold tipErr
  repeat' split
  all_goals simp
theorem lineErr_2 (M:List Itm) (x:Itm):lineErr M x = 2 ↔ It.right x = false:=by
  constructor
  · intro h
    cases hr:It.right x with
    | false=>rfl
    | true =>
      have h1:=tipErr_in M (ments M) x.e0
      have h2:=tipErr_in M (ments M ++ [x.e0]) x.e1
      have h3:=tipErr_in M [] x.e0
      unfold lineErr joinErr sigErr at h
      rw [hr,if_neg (by simp)] at h
      repeat' split at h
      all_goals (first | omega | simp at h)
  · intro h
    unfold lineErr
    rw [h];rfl
theorem build_at {K:List Itm} {i:Nat} {e:Int} (hi:i<K.length) (he:errAt K i = e) (h0:e ≠ 0) (hj:∀ j<i,errAt K j = 0):build K = (Plan.zero,e,i + 1):=by
  unfold build
  rw [firstE_some.2 ⟨hi,by rw [he];exact h0,hj⟩]
  simp only [he]
theorem errAt_take {L:List Itm} {i n:Nat} (h:i<n) (hn:n≤L.length):errAt (L.take n) i = errAt L i:=by
  have:=errAt_left (M:=L.take n) (N:=L.drop n) (i:=i) (by rw [List.length_take];omega)
  rw [List.take_append_drop] at this
  exact this.symm
end Go.Proofs.YtpdfbnolhpakoaaGreat.Pl
namespace Go.Proofs.YtpdfbnolhpakoaaGreat.Pl
open Go It
def secG (g:Tp→En) (x:Itm):Sec:=⟨x.name,isPt x,x.n,g (tip x 0),g (tip x 1),if isPt x then g (tip x 2) else stop⟩
def upd (g:Tp→En) (t:Tp) (a:En):Tp→En:=fun v=>if v = t then a else g v
def Sec.put (s:Sec) (e:Nat) (a:En):Sec:=if e = 0 then { s with e0:=a } else if e = 1 then { s with e1:=a } else { s with e2:=a }
def Sec.setTo (e:Nat) (v:Int) (s:Sec):Sec:=s.put e { s.get e with goes:=v }
def Sec.setAt (e:Nat) (v:Int) (s:Sec):Sec:=s.put e { s.get e with at_:=v }
def Sec.setSig (e:Nat) (v:Int) (s:Sec):Sec:=s.put e { s.get e with sig:=v }
theorem get_secG (g:Tp→En) {x:Itm} {e:Nat} (he:e<nEnds (isPt x)):(secG g x).get e = g (tip x e):=by
  unfold Sec.get
  by_cases h0:e = 0
  · rw [if_pos h0,h0];rfl
  · rw [if_neg h0]
    by_cases h1:e = 1
    · rw [if_pos h1,h1];rfl
    · rw [if_neg h1]
      have hp:isPt x = true:=by
        cases hp:isPt x with
        | true=>rfl
        | false=>rw [hp] at he;simp [nEnds] at he;omega
      have h2:e = 2:=by rw [hp] at he;simp [nEnds] at he;omega
      rw [h2]
      show (if isPt x = true then g (tip x 2) else stop) = _
      rw [if_pos hp]
theorem tip_ne {x:Itm} {e f:Nat} (he:e<nEnds (isPt x)) (hf:f<nEnds (isPt x)) (h:e ≠ f):tip x e ≠ tip x f:=fun hc=>h (letter_inj he hf (congrArg Tp.c hc))
theorem secG_upd (g:Tp→En) (a:En) {x:Itm} {e:Nat} (he:e<nEnds (isPt x)):secG (upd g (tip x e) a) x = (secG g x).put e a:=by
  have n0:0<nEnds (isPt x):=by unfold nEnds;split <;> omega
  have n1:1<nEnds (isPt x):=by unfold nEnds;split <;> omega
  unfold Sec.put
  by_cases h0:e = 0
  · subst h0
    rw [if_pos rfl]
    unfold secG upd
    rw [if_pos rfl,if_neg (tip_ne n1 n0 (by omega))]
    by_cases hp:isPt x = true
    · rw [if_pos hp,if_pos hp,if_neg (tip_ne (by rw [hp];decide) n0 (by omega))]
    · rw [if_neg hp,if_neg hp]
  · rw [if_neg h0]
    by_cases h1:e = 1
    · subst h1
      rw [if_pos rfl]
      unfold secG upd
      rw [if_pos rfl,if_neg (tip_ne n0 n1 (by omega))]
      by_cases hp:isPt x = true
      · rw [if_pos hp,if_pos hp,if_neg (tip_ne (by rw [hp];decide) n1 (by omega))]
      · rw [if_neg hp,if_neg hp]
    · rw [if_neg h1]
      have hp:isPt x = true:=by
        cases hp:isPt x with
        | true=>rfl
        | false=>rw [hp] at he;simp [nEnds] at he;omega
      have h2:e = 2:=by rw [hp] at he;simp [nEnds] at he;omega
      subst h2
      unfold secG upd
      rw [if_neg (tip_ne n0 he (by omega)),if_neg (tip_ne n1 he (by omega)),if_pos hp,if_pos hp,if_pos rfl]
theorem secG_other (g:Tp→En) (a:En) {x y:Itm} {e:Nat} (h:x.name ≠ y.name):secG (upd g (tip y e) a) x = secG g x:=by
  have n:∀ f,tip x f ≠ tip y e:=fun f hc=>h (congrArg Tp.n hc)
  unfold secG upd
  rw [if_neg (n 0),if_neg (n 1),if_neg (n 2)]
theorem modify_at {α:Type} (L:List α) (i k:Nat) (f:α→α):(L.modify i f)[k]? = if i = k then (L[k]?).map f else L[k]?:=by
  rw [List.getElem?_modify]
  by_cases h:i = k
  · subst h
    cases L[i]? <;> simp
  · cases L[k]? <;> simp [h]
theorem map_upd {S:List Itm} (hn:(S.map (·.name)).Nodup) (g:Tp→En) (a:En) {i:Nat} {y:Itm} (hy:S[i]? = some y) {e:Nat} (he:e<nEnds (isPt y)):S.map (secG (upd g (tip y e) a)) = (S.map (secG g)).modify i (fun s=>s.put e a):=by
  apply List.ext_getElem?
  intro k
  rw [modify_at,List.getElem?_map,List.getElem?_map]
  cases hk:S[k]? with
  | none=>split <;> rfl
  | some x =>
    simp only [Option.map_some]
    by_cases hik:i = k
    · subst hik
      rw [hk] at hy
      cases hy
      rw [if_pos rfl,secG_upd g a he]
    · rw [if_neg hik]
      have:x.name ≠ y.name:=fun e=>by
        have hi:=List.getElem?_map (f:=Itm.name) (l:=S) (i:=i)
        have hk2:=List.getElem?_map (f:=Itm.name) (l:=S) (i:=k)
        rw [hy] at hi
        rw [hk] at hk2
        simp only [Option.map_some] at hi hk2
        rw [e] at hk2
        obtain ⟨h1,h1'⟩:=List.getElem?_eq_some_iff.1 hi
        obtain ⟨h2,h2'⟩:=List.getElem?_eq_some_iff.1 hk2
        have hp:=List.nodup_iff_pairwise_ne.1 hn
        rcases Nat.lt_or_gt_of_ne hik with h | h
        · exact List.pairwise_iff_getElem.1 hp i k h1 h2 h (h1'.trans h2'.symm)
        · exact List.pairwise_iff_getElem.1 hp k i h2 h1 h (h2'.trans h1'.symm)
      rw [secG_other g a this]
theorem pos_at:∀ {N:List Nm} (_:N.Nodup) (i:Nat) (nm:Nm),N[i]? = some nm→pos N nm = i
  | [],_,i,nm,hi=>by simp at hi
  | a :: N,h,0,nm,hi=>by
    obtain rfl:a = nm:=by simpa using hi
    simp [pos,List.findIdx_cons]
  | a :: N,h,i + 1,nm,hi=>by
    have h':=List.nodup_cons.1 h
    have hi':N[i]? = some nm:=by simpa using hi
    have ih:=pos_at h'.2 i nm hi'
    have hne:¬ a = nm:=fun e=>h'.1 (e ▸ List.mem_of_getElem? hi')
    unfold pos at ih ⊢
    rw [List.findIdx_cons]
    simp [hne]
    omega
theorem pos_append {N R:List Nm} {nm:Nm} (h:nm ∈ N):pos (N ++ R) nm = pos N nm:=by
  unfold pos
  rw [List.findIdx_append]
  have:N.findIdx (fun a=>decide (a = nm))<N.length:=List.findIdx_lt_length.2 ⟨nm,h,by simp⟩
  rw [if_pos this]
abbrev gW (M:List Itm):Tp→En:=enW (pos (nmS M)) (pos (nmG M)) M
def wS (M:List Itm):List Sec:=(secs M).map (secG (gW M))
def wG (M:List Itm):List Sig:=(sigs M).map (sigW (pos (nmS M)) M)
theorem wS_len (M:List Itm):(wS M).length = (secs M).length:=by simp [wS]
theorem wG_len (M:List Itm):(wG M).length = (sigs M).length:=by simp [wG]
theorem wS_at {M:List Itm} {i:Nat} {s:Sec} (h:(wS M)[i]? = some s):∃ x,(secs M)[i]? = some x∧s = secG (gW M) x:=by
  rw [wS,List.getElem?_map,Option.map_eq_some_iff] at h
  obtain ⟨x,hx,rfl⟩:=h
  exact ⟨x,hx,rfl⟩
theorem wS_of {M:List Itm} {i:Nat} {x:Itm} (h:(secs M)[i]? = some x):(wS M)[i]? = some (secG (gW M) x):=by rw [wS,List.getElem?_map,h];rfl
theorem nmS_at {M:List Itm} {i:Nat} {x:Itm} (h:(secs M)[i]? = some x):(nmS M)[i]? = some x.name:=by rw [nmS,List.getElem?_map,h];rfl
theorem pos_sec {M:List Itm} (hn:(nmS M).Nodup) {i:Nat} {x:Itm} (h:(secs M)[i]? = some x):pos (nmS M) x.name = i:=pos_at hn i _ (nmS_at h)
theorem find_wS {M:List Itm} (nm:Nm):(nm ∉ nmS M∧find (wS M) nm = -1)∨∃ (i:Nat) (x:Itm),find (wS M) nm = i∧(secs M)[i]? = some x∧x.name = nm:=by
  rcases find_cases (wS M) nm with ⟨h1,h2⟩ | ⟨i,s,h1,h2,h3⟩
  · refine .inl ⟨fun h=>?_,h1⟩
    obtain ⟨x,hx,e⟩:=mem_nmS.1 h
    exact h2 _ (List.mem_map.2 ⟨x,hx,rfl⟩) e
  · obtain ⟨x,hx,rfl⟩:=wS_at h2
    exact .inr ⟨i,x,h1,hx,h3⟩
theorem partner_snoc (M:List Itm) (x:Itm) (t:Tp):partner (M ++ [x]) t = (partner M t).or (link t x):=by
  unfold partner
  rw [List.findSome?_append]
  simp only [List.findSome?_cons,List.findSome?_nil]
  cases link t x <;> rfl
theorem ments_nm {M:List Itm} (hM:Ok M) {t:Tp} (h:t ∈ ments M):t.n ∈ nmS M:=by
  obtain ⟨y,hy,e,_,rfl⟩:=ments_told hM h
  exact mem_nmS.2 ⟨y,hy,rfl⟩
theorem sig_nm {M:List Itm} (hM:Ok M) {x:Itm} (h:x ∈ sigs M):x.e0.n ∈ nmS M:=by
  have h9:=(sig_facts (mem_sigs.1 h).2).2.2.2.2
  obtain ⟨y,hy,e,_,he⟩:=told_all hM (mem_sigs.1 h).1 (t:=x.e0) (by unfold tips;rw [if_neg (by omega),if_neg (by omega),if_pos h9];simp)
  exact mem_nmS.2 ⟨y,hy,by rw [he];rfl⟩
theorem secs_same {M:List Itm} {x:Itm} (h:isS x = false):secs (M ++ [x]) = secs M:=by rw [secs_snoc,h];simp
theorem sigs_same {M:List Itm} {x:Itm} (h:isG x = false):sigs (M ++ [x]) = sigs M:=by rw [sigs_snoc,h];simp
theorem ptOf_same {M:List Itm} {x:Itm} (h:isS x = false):ptOf (M ++ [x]) = ptOf M:=by funext nm;unfold ptOf;rw [secs_same h]
theorem sigAt_same {M:List Itm} {x:Itm} (h:isG x = false):sigAt (M ++ [x]) = sigAt M:=by funext t;unfold sigAt;rw [sigs_same h]
theorem ment_none {x:Itm} (h7:x.k ≠ 7) (h8:x.k ≠ 8) (t:Tp):link t x = none:=by rw [link_none,ment,if_neg h7,if_neg h8];simp
theorem num_snoc {M:List Itm} {x:Itm} (k:Int) (h:∀ y ∈ M,y.k ≠ x.k):num (M ++ [x]) k = if k = x.k then x.n else num M k:=by
  unfold num
  rw [List.find?_append]
  by_cases hk:k = x.k
  · subst hk
    rw [if_pos rfl,List.find?_eq_none.2 fun y hy=>by simpa using h y hy]
    simp
  · rw [if_neg hk]
    have:¬ x.k = k:=fun e=>hk e.symm
    simp [this]
theorem num_other {M:List Itm} {x:Itm} {k:Int} (h:x.k ≠ k):num (M ++ [x]) k = num M k:=by
  unfold num
  rw [List.find?_append]
  simp [h]
theorem w_num {M:List Itm} {x:Itm} (hx:isNum x.k = true):wS (M ++ [x]) = wS M∧wG (M ++ [x]) = wG M:=by
  obtain ⟨h1,h2,h7,h8,_⟩:=num_facts hx
  have ep:partner (M ++ [x]) = partner M:=by funext t;rw [partner_snoc,ment_none h7 h8];simp
  have e1:gW (M ++ [x]) = gW M:=by
    funext t
    simp only [gW,enW,ep,ptOf_same h1,sigAt_same h2,nmS,nmG,secs_same h1,sigs_same h2]
  constructor
  · rw [wS,e1,secs_same h1];rfl
  · rw [wG,sigs_same h2]
    unfold wG
    congr 1
    funext y
    simp only [sigW,ptOf_same h1,nmS,secs_same h1]
def openE:En:=⟨-2,0,-1⟩
theorem w_sec {M:List Itm} {x:Itm} (hM:Ok M) (hx:isS x = true) (hn:x.name ∉ nmS M):wS (M ++ [x]) = wS M ++ [⟨x.name,isPt x,x.n,openE,openE,if isPt x then openE else stop⟩]∧wG (M ++ [x]) = wG M:=by
  obtain ⟨_,h2,h7,h8,_⟩:=sec_facts hx
  have es:secs (M ++ [x]) = secs M ++ [x]:=by rw [secs_snoc,if_pos hx]
  have en:nmS (M ++ [x]) = nmS M ++ [x.name]:=by rw [nmS,es,List.map_append];rfl
  have ep:partner (M ++ [x]) = partner M:=by funext t;rw [partner_snoc,ment_none h7 h8];simp
  have ept:∀ nm,nm ∈ nmS M→ptOf (M ++ [x]) nm = ptOf M nm:=fun nm h=>by
    obtain ⟨y,hy,rfl⟩:=mem_nmS.1 h
    unfold ptOf
    rw [es,find_uniq (f:=Itm.name) hM.names hy,List.find?_append,find_uniq (f:=Itm.name) hM.names hy]
    rfl
  have e1:∀ t,gW (M ++ [x]) t = gW M t:=fun t=>by
    simp only [gW,enW,ep,sigAt_same h2,nmG,sigs_same h2]
    cases hp:partner M t with
    | none=>rfl
    | some v =>
      cases v with
      | none=>rfl
      | some u =>
        have hu:=ments_nm hM (partner_ments (t:=u) (by rw [(partner_sym hM.ments hp).1];simp))
        simp only [en,pos_append hu,ept _ hu]
  have e0:∀ e,gW M (tip x e) = openE:=fun e=>by
    have hp:partner M (tip x e) = none:=partner_none.2 fun h=>hn (ments_nm hM h)
    have hs:sigAt M (tip x e) = none:=by
      cases h:sigAt M (tip x e) with
      | none=>rfl
      | some g =>
        obtain ⟨y,hy,h3,_⟩:=sigAt_some h
        exact absurd (sig_nm hM hy) (by rw [h3];exact hn)
    simp only [gW,enW,hp,hs];rfl
  constructor
  · rw [wS,es,List.map_append,show gW (M ++ [x]) = gW M from funext e1]
    unfold wS
    congr 1
    show [secG (gW M) x] = _
    unfold secG
    rw [e0,e0,e0]
  · rw [wG,sigs_same h2]
    unfold wG
    refine List.map_congr_left fun y hy=>?_
    have:=sig_nm hM hy
    simp only [sigW,en,pos_append this,ept _ this]
theorem w_stop {M:List Itm} {x:Itm} (hM:Ok M) (h8:x.k = 8) (hm:x.e0 ∉ ments M) {i:Nat} {y:Itm} (hy:(secs M)[i]? = some y) {e:Nat} (he:e<nEnds (isPt y)) (ht:x.e0 = tip y e) :
    wS (M ++ [x]) = (wS M).modify i (Sec.setTo e (-1))∧wG (M ++ [x]) = wG M:=by
  obtain ⟨h0,h1,h2⟩:=end_facts (x:=x) (.inr h8)
  have eg:gW (M ++ [x]) = upd (gW M) (tip y e) ⟨-1,0,(gW M (tip y e)).sig⟩:=by
    funext v
    unfold upd
    simp only [gW,enW,partner_snoc,ptOf_same h1,sigAt_same h2,nmS,nmG,secs_same h1,sigs_same h2]
    by_cases hv:v = tip y e
    · subst hv
      rw [if_pos rfl]
      rw [ht] at hm
      rw [partner_none.2 hm]
      have:link (tip y e) x = some none:=by unfold link;rw [if_neg (by omega),if_pos ⟨h8,ht⟩]
      rw [this];rfl
    · rw [if_neg hv]
      have:link v x = none:=by unfold link;rw [if_neg (by omega),if_neg (fun h=>hv (by rw [← h.2,ht]))]
      rw [this]
      simp
  constructor
  · rw [wS,eg,secs_same h1,map_upd hM.names _ _ hy he]
    apply List.ext_getElem?
    intro k
    rw [modify_at,modify_at]
    by_cases hik:i = k
    · subst hik
      rw [if_pos rfl,if_pos rfl,← wS,wS_of hy]
      show some _ = some _
      congr 1
      unfold Sec.setTo
      rw [get_secG _ he]
      have hp:partner M (tip y e) = none:=partner_none.2 (by rw [← ht];exact hm)
      simp only [gW,enW,hp]
    · rw [if_neg hik,if_neg hik];rfl
  · rw [wG,sigs_same h2]
    unfold wG
    congr 1
    funext z
    simp only [sigW,ptOf_same h1,nmS,secs_same h1]
theorem w_join {M:List Itm} {x:Itm} (hM:Ok M) (h7:x.k = 7) (hm:x.e0 ∉ ments M) (hm1:x.e1 ∉ ments M) (hne:x.e0 ≠ x.e1) {i j:Nat} {y z:Itm} (hy:(secs M)[i]? = some y) (hz:(secs M)[j]? = some z) {e f:Nat} (he:e<nEnds (isPt y)) (hf:f<nEnds (isPt z)) (ht:x.e0 = tip y e) (hu:x.e1 = tip z f) :
    wS (M ++ [x]) = ((wS M).modify i (fun s=>s.put e ⟨j,f,(gW M (tip y e)).sig⟩)).modify j (fun s=>s.put f ⟨i,e,(gW M (tip z f)).sig⟩)∧wG (M ++ [x]) = wG M:=by
  obtain ⟨h0,h1,h2⟩:=end_facts (x:=x) (.inl h7)
  have hys:y ∈ secs M:=List.mem_of_getElem? hy
  have hzs:z ∈ secs M:=List.mem_of_getElem? hz
  have eg:gW (M ++ [x]) = upd (upd (gW M) (tip y e) ⟨j,f,(gW M (tip y e)).sig⟩) (tip z f) ⟨i,e,(gW M (tip z f)).sig⟩:=by
    funext v
    unfold upd
    simp only [gW,enW,partner_snoc,ptOf_same h1,sigAt_same h2,nmS,nmG,secs_same h1,sigs_same h2]
    by_cases hv:v = tip z f
    · subst hv
      rw [if_pos rfl]
      rw [hu] at hm1
      rw [partner_none.2 hm1]
      have:link (tip z f) x = some (some (tip y e)):=by unfold link;rw [if_pos h7,if_neg (by rw [← hu];exact hne),if_pos hu,ht]
      rw [this]
      have hpos:pos ((secs M).map (·.name)) (tip y e).n = i:=pos_sec hM.names hy
      simp only [Option.none_or,hpos,tip_at hM hys he,Option.getD_some]
    · rw [if_neg hv]
      by_cases hv2:v = tip y e
      · subst hv2
        rw [if_pos rfl]
        rw [ht] at hm
        rw [partner_none.2 hm]
        have:link (tip y e) x = some (some (tip z f)):=by unfold link;rw [if_pos h7,if_pos ht,hu]
        rw [this]
        have hpos:pos ((secs M).map (·.name)) (tip z f).n = j:=pos_sec hM.names hz
        simp only [Option.none_or,hpos,tip_at hM hzs hf,Option.getD_some]
      · rw [if_neg hv2]
        have:link v x = none:=by unfold link;rw [if_pos h7,if_neg (fun h=>hv2 (by rw [← h,ht])),if_neg (fun h=>hv (by rw [← h,hu]))]
        rw [this]
        simp
  constructor
  · rw [wS,eg,secs_same h1,map_upd hM.names _ _ hz hf,map_upd hM.names _ _ hy he];rfl
  · rw [wG,sigs_same h2]
    unfold wG
    congr 1
    funext z
    simp only [sigW,ptOf_same h1,nmS,secs_same h1]
theorem w_sig {M:List Itm} {x:Itm} (hM:Ok M) (hg:isG x = true) (hn:x.name ∉ nmG M) (hs:x.e0 ∉ (sigs M).map (·.e0)) {i:Nat} {y:Itm} (hy:(secs M)[i]? = some y) {e:Nat} (he:e<nEnds (isPt y)) (ht:x.e0 = tip y e) :
    wS (M ++ [x]) = (wS M).modify i (Sec.setSig e (wG M).length)∧wG (M ++ [x]) = wG M ++ [⟨x.name,i,e⟩]:=by
  obtain ⟨_,h1,h7,h8,_⟩:=sig_facts hg
  have eG:sigs (M ++ [x]) = sigs M ++ [x]:=by rw [sigs_snoc,if_pos hg]
  have hys:y ∈ secs M:=List.mem_of_getElem? hy
  have enG:nmG (M ++ [x]) = nmG M ++ [x.name]:=by rw [nmG,eG,List.map_append];rfl
  have ep:partner (M ++ [x]) = partner M:=by funext t;rw [partner_snoc,ment_none h7 h8];simp
  have hlast:pos (nmG M ++ [x.name]) x.name = (wG M).length:=by
    have:(nmG M ++ [x.name]).Nodup:=nodup_snoc.2 ⟨hM.gnames,hn⟩
    rw [pos_at this (nmG M).length x.name (by simp),wG_len,nmG,List.length_map]
  have eg:gW (M ++ [x]) = upd (gW M) (tip y e) { gW M (tip y e) with sig:=(wG M).length }:=by
    funext v
    unfold upd
    have hsv:sigAt (M ++ [x]) v = (sigAt M v).or (if x.e0 = v then some x.name else none):=by
      unfold sigAt
      rw [eG,List.find?_append]
      by_cases hv:x.e0 = v
      · rw [if_pos hv]
        cases (sigs M).find? fun z=>decide (z.e0 = v) <;> simp [hv]
      · rw [if_neg hv]
        cases (sigs M).find? fun z=>decide (z.e0 = v) <;> simp [hv]
    by_cases hv:v = tip y e
    · subst hv
      rw [if_pos rfl]
      have hno:sigAt M (tip y e) = none:=by
        have:=sigAt_none.2 hs
        rw [ht] at this
        cases h:sigAt M (tip y e) with
        | none=>rfl
        | some g=>rw [h] at this;cases this
      simp only [gW,enW,ep,ptOf_same h1,nmS,secs_same h1,hsv,hno,if_pos ht,Option.none_or,enG,hlast]
    · rw [if_neg hv]
      rw [if_neg (fun h=>hv (by rw [← h,ht])),Option.or_none] at hsv
      simp only [gW,enW,ep,ptOf_same h1,nmS,secs_same h1,hsv,enG]
      cases h:sigAt M v with
      | none=>rfl
      | some g =>
        obtain ⟨z,hz,_,rfl⟩:=sigAt_some h
        simp only [pos_append (show z.name ∈ nmG M from List.mem_map.2 ⟨z,hz,rfl⟩)]
  constructor
  · rw [wS,eg,secs_same h1,map_upd hM.names _ _ hy he]
    apply List.ext_getElem?
    intro k
    rw [modify_at,modify_at]
    by_cases hik:i = k
    · subst hik
      rw [if_pos rfl,if_pos rfl,← wS,wS_of hy]
      show some _ = some _
      congr 1
      unfold Sec.setSig
      rw [get_secG _ he]
    · rw [if_neg hik,if_neg hik];rfl
  · have e1:∀ z,sigW (pos (nmS (M ++ [x]))) (M ++ [x]) z = sigW (pos (nmS M)) M z:=fun z=>by simp only [sigW,ptOf_same h1,nmS,secs_same h1]
    rw [wG,eG,List.map_append,show sigW (pos (nmS (M ++ [x]))) (M ++ [x]) = sigW (pos (nmS M)) M from funext e1]
    unfold wG
    congr 1
    show [sigW (pos (nmS M)) M x] = _
    unfold sigW
    rw [ht,tip_at hM hys he,show (tip y e).n = y.name from rfl,pos_sec hM.names hy]
    rfl
end Go.Proofs.YtpdfbnolhpakoaaGreat.Pl
namespace Go.Proofs.YtpdfbnolhpakoaaGreat.Pl
open Go It
def ranks (N:List Nm):List Int:=N.map (rank N)
def ren1 (R:List Int) (v:Int):Int:=if 0≤v then R.getD v.toNat 0 else v
def renEn (R Q:List Int) (e:En):En:=⟨ren1 R e.goes,e.at_,ren1 Q e.sig⟩
def renSec (R Q:List Int) (s:Sec):Sec:=⟨s.name,s.pt,s.len,renEn R Q s.e0,renEn R Q s.e1,renEn R Q s.e2⟩
def renSig (R:List Int) (g:Sig):Sig:=⟨g.name,ren1 R g.sec,g.en⟩
theorem ranks_len (N:List Nm):(ranks N).length = N.length:=by simp [ranks]
theorem ranks_at {N:List Nm} {i:Nat} {nm:Nm} (h:N[i]? = some nm):(ranks N)[i]? = some (rank N nm):=by rw [ranks,List.getElem?_map,h];rfl
theorem ren_pos {N:List Nm} {nm:Nm} (h:nm ∈ N):ren1 (ranks N) (pos N nm) = rank N nm:=by
  have hl:N.findIdx (fun a=>decide (a = nm))<N.length:=List.findIdx_lt_length.2 ⟨nm,h,by simp⟩
  have he:=List.findIdx_getElem (xs:=N) (p:=fun a=>decide (a = nm)) (w:=hl)
  have he':N[N.findIdx (fun a=>decide (a = nm))] = nm:=of_decide_eq_true he
  unfold ren1 pos
  rw [if_pos (by omega),List.getD_eq_getElem?_getD,Int.toNat_natCast,ranks_at (List.getElem?_eq_getElem hl),he']
  rfl
theorem ren_neg {R:List Int} {v:Int} (h:v<0):ren1 R v = v:=by unfold ren1;rw [if_neg (by omega)]
theorem partner_nm {M:List Itm} (hM:Ok M) {t u:Tp} (h:partner M t = some (some u)):u.n ∈ nmS M:=by
  have h2:=(partner_sym hM.ments h).1
  refine ments_nm hM (t:=u) (Classical.byContradiction fun hc=>?_)
  rw [partner_none.2 hc] at h2
  cases h2
theorem ren_en {M:List Itm} (hM:Ok M) (t:Tp):renEn (ranks (nmS M)) (ranks (nmG M)) (gW M t) = enW (rank (nmS M)) (rank (nmG M)) M t:=by
  unfold renEn gW enW
  congr 1
  · rcases hp:partner M t with _ | _ | u
    · exact ren_neg (show (-2:Int)<0 by decide)
    · exact ren_neg (show (-1:Int)<0 by decide)
    · exact ren_pos (partner_nm hM hp)
  · rcases hs:sigAt M t with _ | g
    · exact ren_neg (show (-1:Int)<0 by decide)
    · obtain ⟨x,hx,-,rfl⟩:=sigAt_some hs
      exact ren_pos (List.mem_map.2 ⟨x,hx,rfl⟩)
theorem ren_stop (R Q:List Int):renEn R Q stop = stop:=by
  unfold renEn stop
  rw [ren_neg (by decide)]
  congr 1
theorem ren_sec {M:List Itm} (hM:Ok M) (x:Itm):renSec (ranks (nmS M)) (ranks (nmG M)) (secG (gW M) x) = secW (rank (nmS M)) (rank (nmG M)) M x:=by
  unfold renSec secG secW
  simp only
  rw [ren_en hM,ren_en hM]
  congr 1
  cases isPt x
  · exact ren_stop _ _
  · exact ren_en hM _
theorem ren_sig {M:List Itm} (hM:Ok M) {x:Itm} (hx:x ∈ sigs M):renSig (ranks (nmS M)) (sigW (pos (nmS M)) M x) = sigW (rank (nmS M)) M x:=by
  unfold renSig sigW
  congr 1
  exact ren_pos (sig_nm hM hx)
theorem fin_secs_len (M:List Itm):(fin M).secs.length = (wS M).length:=by simp [fin,wS,isort_len]
theorem fin_sigs_len (M:List Itm):(fin M).sigs.length = (wG M).length:=by simp [fin,wG,isort_len]
theorem isort_names {l:List Itm}:((isort Itm.name l).map (·.name)).Perm (l.map (·.name)):=(isort_perm Itm.name l).map _
theorem fin_sec_at {M:List Itm} (hM:Ok M) {i:Nat} {s:Sec} (h:(wS M)[i]? = some s) :
    (fin M).secs[(rank (nmS M) s.name).toNat]? = some (renSec (ranks (nmS M)) (ranks (nmG M)) s):=by
  obtain ⟨x,hx,rfl⟩:=wS_at h
  rw [ren_sec hM]
  have h1:=at_rank (isort_rise Itm.name (secs M) hM.names) ((isort_mem Itm.name).2 (List.mem_of_getElem? hx))
  rw [rank_perm isort_names] at h1
  show ((isort Itm.name (secs M)).map (secW (rank (nmS M)) (rank (nmG M)) M))[(rank (nmS M) x.name).toNat]? = _
  rw [List.getElem?_map]
  rw [show (isort Itm.name (secs M))[(rank (nmS M) x.name).toNat]? = some x from h1]
  rfl
theorem fin_sig_at {M:List Itm} (hM:Ok M) {i:Nat} {g:Sig} (h:(wG M)[i]? = some g) :
    (fin M).sigs[(rank (nmG M) g.name).toNat]? = some (renSig (ranks (nmS M)) g):=by
  rw [wG,List.getElem?_map,Option.map_eq_some_iff] at h
  obtain ⟨x,hx,rfl⟩:=h
  rw [ren_sig hM (List.mem_of_getElem? hx)]
  have h1:=at_rank (isort_rise Itm.name (sigs M) hM.gnames) ((isort_mem Itm.name).2 (List.mem_of_getElem? hx))
  rw [rank_perm isort_names] at h1
  show ((isort Itm.name (sigs M)).map (sigW (rank (nmS M)) M))[(rank (nmG M) x.name).toNat]? = _
  rw [List.getElem?_map]
  rw [show (isort Itm.name (sigs M))[(rank (nmG M) x.name).toNat]? = some x from h1]
  rfl
theorem rank_onto {l:List Itm} (hn:(l.map (·.name)).Nodup) {p:Nat} (hp:p<l.length):∃ i,i<l.length∧∀ nm,(l.map (·.name))[i]? = some nm→(rank (l.map (·.name)) nm).toNat = p:=by
  have hp':p<(isort Itm.name l).length:=by rw [isort_len];exact hp
  have hm:(isort Itm.name l)[p] ∈ l:=(isort_mem Itm.name).1 (List.getElem_mem hp')
  obtain ⟨i,hi,e⟩:=List.getElem_of_mem hm
  refine ⟨i,hi,fun nm h=>?_⟩
  rw [List.getElem?_map,List.getElem?_eq_getElem hi] at h
  obtain rfl:l[i].name = nm:=by simpa using h
  rw [← rank_perm isort_names,rank_at (rise_map (isort_rise Itm.name l hn)) p _ (by rw [List.getElem?_map,List.getElem?_eq_getElem hp',← e];rfl)]
  simp
end Go.Proofs.YtpdfbnolhpakoaaGreat.Pl
namespace Go.Proofs.YtpdfbnolhpakoaaGreat.Pl
open Go It
theorem pos_lt {N:List Nm} {nm:Nm} (h:nm ∈ N):pos N nm<N.length:=by
  have hl:N.findIdx (fun a=>decide (a = nm))<N.length:=List.findIdx_lt_length.2 ⟨nm,h,by simp⟩
  unfold pos;omega
theorem gW_lt {M:List Itm} (hM:Ok M) (t:Tp):(gW M t).goes<(nmS M).length∧(gW M t).sig<(nmG M).length:=by
  unfold gW enW
  constructor
  · rcases hp:partner M t with _ | _ | u
    · show (-2:Int)<_;omega
    · show (-1:Int)<_;omega
    · exact pos_lt (partner_nm hM hp)
  · rcases hs:sigAt M t with _ | g
    · show (-1:Int)<_;omega
    · obtain ⟨x,hx,-,rfl⟩:=sigAt_some hs
      exact pos_lt (List.mem_map.2 ⟨x,hx,rfl⟩)
theorem nmS_len (M:List Itm):(nmS M).length = (wS M).length:=by simp [nmS,wS]
theorem nmG_len (M:List Itm):(nmG M).length = (wG M).length:=by simp [nmG,wG]
theorem wS_ends {M:List Itm} (hM:Ok M) {i:Nat} {s:Sec} (h:(wS M)[i]? = some s) (e:Nat):(s.get e).goes<(wS M).length∧(s.get e).sig<(wG M).length:=by
  obtain ⟨x,-,rfl⟩:=wS_at h
  have g:=fun t=>gW_lt hM t
  rw [nmS_len,nmG_len] at g
  unfold Sec.get secG
  by_cases h0:e = 0
  · rw [if_pos h0];exact g _
  · rw [if_neg h0]
    by_cases h1:e = 1
    · rw [if_pos h1];exact g _
    · rw [if_neg h1]
      simp only
      by_cases hp:isPt x = true
      · rw [if_pos hp];exact g _
      · rw [if_neg hp]
        constructor
        · show (-1:Int)<_;omega
        · show (-1:Int)<_;omega
theorem wG_sec {M:List Itm} (hM:Ok M) {i:Nat} {g:Sig} (h:(wG M)[i]? = some g):0≤g.sec∧g.sec<(wS M).length:=by
  rw [wG,List.getElem?_map,Option.map_eq_some_iff] at h
  obtain ⟨x,hx,rfl⟩:=h
  rw [← nmS_len]
  exact ⟨by show 0≤pos _ _;unfold pos;omega,pos_lt (sig_nm hM (List.mem_of_getElem? hx))⟩
theorem ren1_at {N:List Nm} {t:Nat} (h:t<N.length):(ranks N)[t]? = some (ren1 (ranks N) t):=by
  unfold ren1
  rw [if_pos (by omega),Int.toNat_natCast,List.getD_eq_getElem?_getD,List.getElem?_eq_getElem (by rw [ranks_len];exact h)]
  rfl
theorem wS_name_mem {M:List Itm} {i:Nat} {s:Sec} (h:(wS M)[i]? = some s):s.name ∈ nmS M:=by
  obtain ⟨x,hx,rfl⟩:=wS_at h
  exact List.mem_map.2 ⟨x,List.mem_of_getElem? hx,rfl⟩
theorem wG_name_mem {M:List Itm} {i:Nat} {g:Sig} (h:(wG M)[i]? = some g):g.name ∈ nmG M:=by
  rw [wG,List.getElem?_map,Option.map_eq_some_iff] at h
  obtain ⟨x,hx,rfl⟩:=h
  exact List.mem_map.2 ⟨x,List.mem_of_getElem? hx,rfl⟩
theorem secs_whole {M:List Itm} (hM:Ok M) {X:List Sec} (hl:X.length = (wS M).length)
    (h:∀ (j:Nat) (s:Sec),(wS M)[j]? = some s→X[(rank (nmS M) s.name).toNat]? = some (renSec (ranks (nmS M)) (ranks (nmG M)) s)):X = (fin M).secs:=by
  apply List.ext_getElem?
  intro p
  by_cases hp:p<(secs M).length
  · obtain ⟨i,hi,hr⟩:=rank_onto (l:=secs M) hM.names hp
    have hs:=wS_of (M:=M) (List.getElem?_eq_getElem hi)
    have e:=hr (secs M)[i].name (by rw [List.getElem?_map,List.getElem?_eq_getElem hi];rfl)
    have h1:=h i _ hs
    have h2:=fin_sec_at hM hs
    have e':(rank (nmS M) (secG (gW M) (secs M)[i]).name).toNat = p:=e
    rw [e'] at h1 h2
    rw [h1,h2]
  · rw [List.getElem?_eq_none (by rw [hl,wS_len];omega),List.getElem?_eq_none (by rw [fin_secs_len,wS_len];omega)]
theorem sigs_whole {M:List Itm} (hM:Ok M) {X:List Sig} (hl:X.length = (wG M).length)
    (h:∀ (j:Nat) (g:Sig),(wG M)[j]? = some g→X[(rank (nmG M) g.name).toNat]? = some (renSig (ranks (nmS M)) g)):X = (fin M).sigs:=by
  apply List.ext_getElem?
  intro p
  by_cases hp:p<(sigs M).length
  · obtain ⟨i,hi,hr⟩:=rank_onto (l:=sigs M) hM.gnames hp
    have hs:(wG M)[i]? = some (sigW (pos (nmS M)) M (sigs M)[i]):=by rw [wG,List.getElem?_map,List.getElem?_eq_getElem hi];rfl
    have e:=hr (sigs M)[i].name (by rw [List.getElem?_map,List.getElem?_eq_getElem hi];rfl)
    have h1:=h i _ hs
    have h2:=fin_sig_at hM hs
    have e':(rank (nmG M) (sigW (pos (nmS M)) M (sigs M)[i]).name).toNat = p:=e
    rw [e'] at h1 h2
    rw [h1,h2]
  · rw [List.getElem?_eq_none (by rw [hl,wG_len];omega),List.getElem?_eq_none (by rw [fin_sigs_len,wG_len];omega)]
theorem told_more {α:Type} {L:List α} {n:Nat} (key:α→Nat) (out:α→α) {X:List α} {i:Nat} {a:α} (hi:L[i]? = some a) (hlt:∀ b ∈ L,key b<n) (hX:X.length = n)
    (hinj:∀ (j:Nat) (b:α),j<i→L[j]? = some b→key b ≠ key a) (h:∀ (j:Nat) (b:α),j<i→L[j]? = some b→X[key b]? = some (out b)) :
    ∀ (j:Nat) (b:α),j<i + 1→L[j]? = some b→(X.set (key a) (out a))[key b]? = some (out b):=fun j b hj hb=>by
  rcases Nat.lt_succ_iff_lt_or_eq.1 hj with h1 | rfl
  · rw [List.getElem?_set_ne (Ne.symm (hinj j b h1 hb))];exact h j b h1 hb
  · rw [hi] at hb
    cases hb
    rw [List.getElem?_set_self (by rw [hX];exact hlt a (List.mem_of_getElem? hi))]
theorem names_apart {α:Type} {L:List α} (f:α→Nm) (hn:(L.map f).Nodup) {i j:Nat} {a b:α} (hi:L[i]? = some a) (hj:L[j]? = some b) (h:j<i):rank (L.map f) (f b) ≠ rank (L.map f) (f a):=fun hc=>by
  have ha:f a ∈ L.map f:=List.mem_map.2 ⟨a,List.mem_of_getElem? hi,rfl⟩
  have hb:f b ∈ L.map f:=List.mem_map.2 ⟨b,List.mem_of_getElem? hj,rfl⟩
  have e:=rank_inj hb ha hc
  obtain ⟨h1,h1'⟩:=List.getElem?_eq_some_iff.1 hi
  obtain ⟨h2,h2'⟩:=List.getElem?_eq_some_iff.1 hj
  have hp:=List.nodup_iff_pairwise_ne.1 hn
  have:=List.pairwise_iff_getElem.1 hp j i (by simpa using h2) (by simpa using h1) h
  simp only [List.getElem_map] at this
  rw [h1',h2'] at this
  exact this e
def Upto (R Q:List Int) (e:Nat) (s t:Sec):Prop:=t.name = s.name∧t.pt = s.pt∧t.len = s.len∧(∀ f,f<3→f<e→t.get f = renEn R Q (s.get f))∧∀ f,f<3→e≤f→t.get f = s.get f
theorem Upto.zero (R Q:List Int) (s:Sec):Upto R Q 0 s s:=⟨rfl,rfl,rfl,fun f _ h=>absurd h (Nat.not_lt_zero f),fun _ _ _=>rfl⟩
theorem get_put {s:Sec} {e f:Nat} {a:En} (he:e<3) (hf:f<3):(s.put e a).get f = if f = e then a else s.get f:=by
  have h1:e = 0∨e = 1∨e = 2:=by omega
  have h2:f = 0∨f = 1∨f = 2:=by omega
  rcases h1 with rfl | rfl | rfl <;> rcases h2 with rfl | rfl | rfl <;> rfl
theorem put_name (s:Sec) (e:Nat) (a:En):(s.put e a).name = s.name∧(s.put e a).pt = s.pt∧(s.put e a).len = s.len:=by
  unfold Sec.put;split
  · exact ⟨rfl,rfl,rfl⟩
  · split <;> exact ⟨rfl,rfl,rfl⟩
theorem Upto.next {R Q:List Int} {e:Nat} {s t:Sec} (h:Upto R Q e s t) (he:e<3):Upto R Q (e + 1) s (t.put e (renEn R Q (s.get e))):=by
  obtain ⟨h1,h2,h3,h4,h5⟩:=h
  obtain ⟨p1,p2,p3⟩:=put_name t e (renEn R Q (s.get e))
  refine ⟨p1.trans h1,p2.trans h2,p3.trans h3,fun f hf hlt=>?_,fun f hf hle=>?_⟩
  · rw [get_put he hf]
    by_cases hfe:f = e
    · rw [if_pos hfe,hfe]
    · rw [if_neg hfe];exact h4 f hf (by omega)
  · rw [get_put he hf,if_neg (by omega)];exact h5 f hf (by omega)
theorem Upto.done {R Q:List Int} {s t:Sec} (h:Upto R Q 3 s t):t = renSec R Q s:=by
  obtain ⟨h1,h2,h3,h4,-⟩:=h
  have e0:=h4 0 (by decide) (by decide)
  have e1:=h4 1 (by decide) (by decide)
  have e2:=h4 2 (by decide) (by decide)
  cases t
  cases s
  simp only [Sec.get] at e0 e1 e2
  simp only at h1 h2 h3
  subst h1 h2 h3
  unfold renSec
  simp_all
theorem put_ren {R Q:List Int} {e:Nat} {s t:Sec} (h:Upto R Q e s t) (he:e<3):(t.put e (renEn R Q (s.get e))) = (t.setTo e (ren1 R (t.get e).goes)).setSig e (ren1 Q (t.get e).sig):=by
  have hg:=h.2.2.2.2 e he (Nat.le_refl e)
  rw [← hg]
  unfold Sec.setSig Sec.setTo
  have h1:e = 0∨e = 1∨e = 2:=by omega
  rcases h1 with rfl | rfl | rfl <;> rfl
theorem setTo_same {t:Sec} {e:Nat} {R:List Int} (he:e<3) (h:(t.get e).goes<0):t.setTo e (ren1 R (t.get e).goes) = t:=by
  rw [ren_neg h]
  have h1:e = 0∨e = 1∨e = 2:=by omega
  rcases h1 with rfl | rfl | rfl <;> rfl
theorem setSig_same {t:Sec} {e:Nat} {Q:List Int} (he:e<3) (h:(t.get e).sig<0):t.setSig e (ren1 Q (t.get e).sig) = t:=by
  rw [ren_neg h]
  have h1:e = 0∨e = 1∨e = 2:=by omega
  rcases h1 with rfl | rfl | rfl <;> rfl
theorem setTo_get_sig {t:Sec} {e:Nat} (v:Int) (he:e<3):((t.setTo e v).get e).sig = (t.get e).sig:=by
  have h1:e = 0∨e = 1∨e = 2:=by omega
  rcases h1 with rfl | rfl | rfl <;> rfl
end Go.Proofs.YtpdfbnolhpakoaaGreat.Pl
namespace Go.Proofs.YtpdfbnolhpakoaaGreat.Pl
open Go It
def clrE (e:En):En:=⟨e.goes,e.at_,-1⟩
def clr (s:Sec):Sec:=⟨s.name,s.pt,s.len,clrE s.e0,clrE s.e1,clrE s.e2⟩
def dS (M:List Itm):List Sec:=(wS M).map clr
end Go.Proofs.YtpdfbnolhpakoaaGreat.Pl
namespace Go.Proofs.YtpdfbnolhpakoaaGreat.Pl
open Go It
structure Fit (p:Plan):Prop where
  ends:∀ (i:Nat) (s:Sec),p.secs[i]? = some s→∀ e,e<3→-1≤(s.get e).goes∧(s.get e).goes<p.secs.length∧(0≤(s.get e).goes→0≤(s.get e).at_∧(s.get e).at_≤2)
  plain:∀ (i:Nat) (s:Sec),p.secs[i]? = some s→s.pt = false→(s.get 2).goes = -1
  sigs:∀ (i:Nat) (g:Sig),p.sigs[i]? = some g→0≤g.sec∧g.sec<p.secs.length∧0≤g.en∧g.en≤2
  few:p.secs.length≤24
  gfew:p.sigs.length≤12
theorem fit_fin {L:List Itm} (hL:Ok L) (hS:Shut L):Fit (fin L) where
  ends i s hs e he:=by
    rcases end_cases hL hS hs he with h | ⟨_,-,-,-,-,-,h1,-,-⟩ | ⟨_,j,f,t,-,-,-,-,hj,hf,h1,h2,-⟩
    · rw [h]
      refine ⟨by decide,?_,fun h0=>absurd h0 (by decide)⟩
      have:=(List.getElem?_eq_some_iff.1 hs).1
      show (-1:Int)<_
      omega
    · refine ⟨by omega,?_,fun h0=>by omega⟩
      have:=(List.getElem?_eq_some_iff.1 hs).1
      omega
    · have:=(List.getElem?_eq_some_iff.1 hj).1
      exact ⟨by omega,by omega,fun _=>⟨by omega,by omega⟩⟩
  plain i s hs hp:=by
    show s.e2.goes = -1
    rw [plain_end hL hs hp];rfl
  sigs i g hg:=by
    obtain ⟨j,f,t,hj,hf,h1,h2,-⟩:=sig_cases hL hg
    have:=(List.getElem?_eq_some_iff.1 hj).1
    exact ⟨by omega,by omega,by omega,by omega⟩
  few:=by rw [secs_len];exact hL.few
  gfew:=by rw [sigs_len];exact hL.gfew
def upTo (f:Nat × Nat→Option Itm) (i e:Nat):List Itm:=((List.range i).flatMap fun s=>(List.range 3).filterMap fun e=>f (s,e)) ++ (List.range e).filterMap fun e=>f (i,e)
theorem flat_len (f:Nat × Nat→Option Itm):∀ i,((List.range i).flatMap fun s=>(List.range 3).filterMap fun e=>f (s,e)).length≤3 * i
  | 0=>Nat.le_refl _
  | i + 1=>by
    rw [List.range_succ (n:=i),List.flatMap_append,List.length_append]
    have h1:=flat_len f i
    have h2:((List.range 3).filterMap fun e=>f (i,e)).length≤3:=Nat.le_trans (List.length_filterMap_le _ _) (by simp)
    simp only [List.flatMap_cons,List.flatMap_nil,List.append_nil]
    omega
theorem upTo_len (f:Nat × Nat→Option Itm) (i e:Nat):(upTo f i e).length≤3 * i + e:=by
  unfold upTo
  rw [List.length_append]
  have h1:=flat_len f i
  have h2:((List.range e).filterMap fun e=>f (i,e)).length≤e:=Nat.le_trans (List.length_filterMap_le _ _) (by simp)
  omega
theorem upTo_all {p:Plan} {f g:Nat × Nat→Option Itm} (hf:∀ (i:Nat) (s:Sec),p.secs[i]? = some s→∀ e,e<3→e<nEnds s.pt→f (i,e) = g (i,e)) (hn:∀ (i:Nat) (s:Sec),p.secs[i]? = some s→s.pt = false→f (i,2) = none):upTo f p.secs.length 0 = (endsP p).filterMap g:=by
  have e0:upTo f p.secs.length 0 = (List.range p.secs.length).flatMap fun s=>(List.range 3).filterMap fun e=>f (s,e):=by unfold upTo;simp
  rw [e0,endsP,List.filterMap_flatMap]
  have : ∀ l:List Nat,(∀ s ∈ l,s<p.secs.length)→(l.flatMap fun s=>(List.range 3).filterMap fun e=>f (s,e)) = l.flatMap fun s=>((List.range (nEnds (((p.secs[s]?).map Sec.pt).getD false))).map fun e=>(s,e)).filterMap g:=by
    intro l hl
    induction l with
    | nil=>rfl
    | cons s l ih =>
      rw [List.flatMap_cons,List.flatMap_cons,ih fun t ht=>hl t (List.mem_cons_of_mem _ ht)]
      congr 1
      have hs:=hl s (List.mem_cons_self ..)
      have hx:=List.getElem?_eq_getElem hs
      generalize p.secs[s] = x at hx
      rw [hx,Option.map_some,Option.getD_some,List.filterMap_map]
      cases hp:x.pt with
      | true =>
        have h0:=hf s x hx 0 (by decide) (by rw [hp];decide)
        have h1:=hf s x hx 1 (by decide) (by rw [hp];decide)
        have h2:=hf s x hx 2 (by decide) (by rw [hp];decide)
        simp only [nEnds,if_true,List.range,List.range.loop,List.filterMap_cons,List.filterMap_nil,h0,h1,h2,Function.comp]
      | false =>
        have h0:=hf s x hx 0 (by decide) (by rw [hp];decide)
        have h1:=hf s x hx 1 (by decide) (by rw [hp];decide)
        have h2:=hn s x hx hp
        simp only [nEnds,Bool.false_eq_true,if_false,List.range,List.range.loop,List.filterMap_cons,List.filterMap_nil,h0,h1,h2,Function.comp]
  exact this _ fun s hs=>List.mem_range.1 hs
end Go.Proofs.YtpdfbnolhpakoaaGreat.Pl
