import Derived.Test.YtpcmemcanpgadaaGreatDoorXBegG
import Derived.Test.YtpcmemcanpgadaaGreatDoorXClb
set_option maxHeartbeats 4000000
set_option maxRecDepth 100000
namespace Go.Proofs.YtpcmemcanpgadaaGreatDoor
open PredP (hide Str Rule bs)
open Go.RowKit
theorem ctxAt.but {N0 gb b:Nat} {U ns:List Str} {w w':World} {k:Nat} (hb:But b w w') (hne:N0≤b∨b=gb):∀(c:PredP.Ctx) (x:PredP.X),ctxAt N0 gb U ns w k x c→ctxAt N0 gb U ns w' k x c:=by
 have q:∀x,okG N0 gb x→x<w.heap.size→okG N0 gb x∧w'.heap[x]?=w.heap[x]?:=fun x hx hl=>⟨hx,hb.block x hl (fun e=>by
  subst e
  rcases hne with hn | hn
  ·have:=hx.1;omega
  ·exact hx.2 hn)⟩
 intro c
 induction c with
 | top=>intro x h;unfold ctxAt at h ⊢;exact⟨xAt.carry hb.size q q x _ h.1,h.2⟩
 | into p i c ih=>intro x h;unfold ctxAt at h ⊢;exact⟨xAt.carry hb.size q q x _ h.1,h.2.1,h.2.2.1,h.2.2.2.1,h.2.2.2.2.1,ih p h.2.2.2.2.2⟩
structure GA (gb:Nat) (G:List Rule) (w:World) (ab n:Nat) (va:Nat→Value) (al:List (List Str)) (wr:World):Prop where
 but:But gb w wr
 c04:∀k,k<5→wr.cell? ⟨gb,k,none⟩=w.cell? ⟨gb,k,none⟩
 row:∃f,wr.rowIs gb 35 7 f
 g5:wr.cell? ⟨gb,5,none⟩=some (.slice (some ⟨ab,0,none⟩) n n)
 ha:w.heap.size≤ab
 gl:gb<w.heap.size
 a:wr.rowIs ab 27 n va
 ls:∀j,j<n→strs wr (va j) (al.getD j [])
 la:al.length=n
 ln:(PredP.names G).length=n
 n12:n≤12
theorem GB.over {N0 gb:Nat} {G:List Rule} {w0 w:World} {eb fb n:Nat} {bl:List Bool} {vf:Nat→Value} {fl:List (List Str)} {wr:World} (h:GB N0 gb G w0 eb fb n bl vf fl w) (hb:But gb w wr) (hc:∀k,k<5→wr.cell? ⟨gb,k,none⟩=w.cell? ⟨gb,k,none⟩) (hr:∃f,wr.rowIs gb 35 7 f):GB N0 gb G w0 eb fb n bl vf fl wr:=by
 have h1:=h.gl
 have h2:=h.he
 have h3:=h.hf
 obtain⟨f0,c0,hc0,_⟩:=h.row
 exact⟨h.but.trans hb,fun k hk=>(hc k (by omega)).trans (h.c012 k hk),hr,(hc 3 (by omega)).trans h.g3,(hc 4 (by omega)).trans h.g4,h2,h3,h.ne,h1,h.e.of_block (hb.block _ h.e.lt (by omega)),h.f.of_block (hb.block _ h.f.lt (by omega)),
  fun j hj=>(h.ls j hj).carry hb.size (fun x hl hs=>hb.block x hl (fun e=>by
   obtain⟨cs,f',hx⟩:=hs
   rw[e,hc0]at hx
   simp at hx)),h.lb,h.lf,h.ln,h.n12⟩
section
variable {N0 gb:Nat} {U:List Str} {G:List Rule} {w:World} {ab n:Nat} {va:Nat→Value} {al:List (List Str)} {wr:World}
theorem GA.below {w':World} (h:GA gb G w ab n va al wr) (hb:Below wr.heap.size wr w'):GA gb G w ab n va al w':=by
 have hg:gb<wr.heap.size:=Nat.lt_of_lt_of_le h.gl h.but.size
 have q:=fun k=>hb.cell (p:=⟨gb,k,none⟩) hg
 obtain⟨f0,hrow⟩:=h.row
 exact⟨h.but.trans (But.of_below hb),fun k hk=>(q k).trans (h.c04 k hk),⟨f0,hrow.of_block (hb.block _ hg)⟩,(q 5).trans h.g5,h.ha,h.gl,h.a.of_block (hb.block _ h.a.lt),fun j hj=>(h.ls j hj).below hb,h.la,h.ln,h.n12⟩
theorem GA.drew (h:GA gb G w ab n va al wr):GA gb G w ab n va al wr.drew:=h.below (Below.refl _ _).drew
theorem GA.setA (h:GA gb G w ab n va al wr) (i:Nat) {v:Value} {L:List Str} (hv:strs wr v L):GA gb G w ab n (fun j=>if j=i then v else va j) (al.set i L) (wr.setCell ⟨ab,i,none⟩ v):=by
 have hg:=h.gl
 have hf:=h.ha
 obtain⟨f0,hrow⟩:=h.row
 have q:∀k,(wr.setCell ⟨ab,i,none⟩ v).cell? ⟨gb,k,none⟩=wr.cell? ⟨gb,k,none⟩:=fun k=>World.cell?_setCell_other _ _ _ _ (fun e=>by injection e with e1;omega)
 refine⟨h.but.setNew hf _,fun k hk=>(q k).trans (h.c04 k hk),⟨f0,hrow.setOther (show gb≠ab by omega) _⟩,(q 5).trans h.g5,h.ha,h.gl,h.a.set i v,fun j hj=>?_,by simpa using h.la,h.ln,h.n12⟩
 have:=h.la
 by_cases e:j=i
 ·subst e
  rw[if_pos rfl,List.getD_eq_getElem?_getD,List.getElem?_set_self (by omega)]
  exact strs_keep h.a (by decide) rfl hv
 ·rw[if_neg e,List.getD_eq_getElem?_getD,List.getElem?_set_ne (fun x=>e x.symm),←List.getD_eq_getElem?_getD]
  exact strs_keep h.a (by decide) rfl (h.ls j hj)
theorem GA.ae {w0:World} {eb fb:Nat} {bl:List Bool} {vf:Nat→Value} {fl:List (List Str)} {l:List PredP.X} (h:GA gb G w ab n va al wr) (hB:GB N0 gb G w0 eb fb n bl vf fl w) (hT:GT N0 gb G l w) (hu:Ups U fl) (hU:U.length≤1000) (ha:Ups U al):AE N0 gb U (PredP.names G) bl fl al wr:=by
 have hB':=hB.over h.but h.c04 h.row
 have hT':GT N0 gb G l wr:=hT.but h.but (.inr rfl) (fun k hk=>h.c04 k (by omega))
 exact⟨⟨hT'.gm,⟨_,hB'.g3,row_bools hB'.e hB'.lb hB'.n12⟩,⟨_,hB'.g4,row_lists hB'.f hB'.ls hB'.lf hB'.n12⟩,by rw[h.ln,hB'.lb],by rw[h.ln,hB'.lf],hu,hU⟩,⟨_,h.g5,row_lists h.a h.ls h.la h.n12⟩,by rw[h.ln,h.la],ha⟩
end
theorem GA.zero (gb:Nat) (G:List Rule) (w:World) (n:Nat) (hn:n≤12) (hl:(PredP.names G).length=n) {f:Nat→Value} (hr:w.rowIs gb 35 7 f) :
  GA gb G w w.heap.size n (fun _=>.slice none 0 0) (List.replicate n []) ((w.setCell ⟨gb,5,none⟩ (.slice (some ⟨w.heap.size,0,none⟩) n n)).alloc (.cells (madeCells #[.slice none 0 0] n) 27)):=by
 have hg:gb<w.heap.size:=hr.lt
 have g1:=hr.set 5 (.slice (some ⟨w.heap.size,0,none⟩) n n)
 have b1:=(But.refl gb w).setCell (p:=⟨gb,5,none⟩) rfl (.slice (some ⟨w.heap.size,0,none⟩) n n)
 have s1:(w.setCell ⟨gb,5,none⟩ (.slice (some ⟨w.heap.size,0,none⟩) n n)).heap.size=w.heap.size:=by simp[World.setCell]
 generalize w.setCell ⟨gb,5,none⟩ (.slice (some ⟨w.heap.size,0,none⟩) n n)=W1 at g1 b1 s1 ⊢
 have r2:=World.rowIs_made W1 (.slice none 0 0) n 27
 have g2:=g1.alloc (.cells (madeCells #[.slice none 0 0] n) 27)
 have b2:=b1.alloc (.cells (madeCells #[.slice none 0 0] n) 27)
 rw[s1]at r2
 refine⟨b2,fun k hk=>?_,⟨_,g2⟩,(g2.cell (i:=5) (by omega)).trans (by simp),Nat.le_refl _,hg,r2,fun j hj=>?_,by simp,hl,hn⟩
 ·rw[g2.cell (by omega),hr.cell (by omega),if_neg (by omega)]
 ·rw[List.getD_eq_getElem?_getD,List.getElem?_replicate,if_pos hj]
  exact .inl ⟨rfl,rfl⟩
theorem GA.first {gb:Nat} {G:List Rule} {w:World} {ab n:Nat} {va:Nat→Value} {al:List (List Str)} {W1:World} (h:GA gb G w ab n va al W1) :
  GA gb G w ab n (fun j=>if j=0 then .slice (some ⟨W1.heap.size,0,none⟩) 1 1 else va j) (al.set 0 [[]]) ((W1.setCell ⟨ab,0,none⟩ (.slice (some ⟨W1.heap.size,0,none⟩) 1 1)).alloc (.cells #[.string ⟨#[]⟩] 9)):=by
 rw[←World.setCell_alloc_past _ _ _ _ h.a.lt]
 exact(h.below ((Below.refl _ _).alloc (Nat.le_refl _) _)).setA 0 (one_strs (c:=⟨#[]⟩))
theorem first_has {ns:List Str} {n:Nat} (hnd:ns.Nodup) (hl:ns.length=n) (hn:0<n) (u m:Str):hasOf ns ((List.replicate n []).set 0 [[]]) u m=true↔ns.head?=some m∧u=[]:=by
 obtain⟨a,ha⟩:∃a,ns[0]?=some a:=⟨ns[0]'(by omega),List.getElem?_eq_getElem _⟩
 obtain⟨q1,q2,_⟩:=fOf_set ns (List.replicate n []) 0 a [[]] hnd (by simp[hl]) ha
 rw[List.head?_eq_getElem?,ha]
 unfold hasOf
 by_cases e:m=a
 ·subst e
  rw[q2]
  simp
 ·rw[q1 m e,fOf_none]
  exact⟨fun h=>by simp at h,fun h=>absurd (Option.some.inj h.1).symm e⟩
theorem first_ups {U:List Str} (h0:[]∈U) (n:Nat):Ups U ((List.replicate n []).set 0 [[]]):=by
 refine⟨fun ll hl=>?_,fun ll hl u hu=>?_⟩
 ·rcases List.mem_or_eq_of_mem_set hl with h | h
  ·rw[List.eq_of_mem_replicate h];exact List.Pairwise.nil
  ·rw[h];exact List.pairwise_singleton _ _
 ·rcases List.mem_or_eq_of_mem_set hl with h | h
  ·rw[List.eq_of_mem_replicate h]at hu;cases hu
  ·rw[h,List.mem_singleton]at hu;rw[hu];exact h0
def A1 (gb:Nat) (U:List Str) (G:List Rule) (w:World) (ab n ga:Nat) (Q:List (Nat×PredP.X×PredP.Ctx)) (j i:Nat) (wr:World):Prop :=
 ∃va al,GA gb G w ab n va al wr∧Ups U al∧hasOf (PredP.names G) al [] ((PredP.names G).getD 0 [])=true∧(∀j u,(ptrC (Q.map fun q=>q.2.1.id))[j]?=some u→wr.cell? ⟨ga,j,none⟩=some u)∧ga<wr.heap.size∧ab<ga ∧
  ∀u,PredP.GSP (PredP.names G) (PredP.aftStep G (PredP.fsts G u).contains (PredP.nul G).contains u) (fun q=>q.2.1.s) (PredP.aftV (PredP.names G) (PredP.fsts G u).contains (PredP.nul G).contains u) j ((Q.take i).filter fun q=>q.2.1.op==.name) (hasOf (PredP.names G) al u)
section
variable {gb:Nat} {U:List Str} {G:List Rule} {l:List PredP.X} {w:World} {ab n ga:Nat} {wr:World}
theorem A1.skip {Q:List (Nat×PredP.X×PredP.Ctx)} {j i:Nat} {q:Nat×PredP.X×PredP.Ctx} (h:A1 gb U G w ab n ga Q j i wr) (hq:Q[i]?=some q) (hop:q.2.1.op≠.name):A1 gb U G w ab n ga Q j (i+1) wr:=by
 obtain⟨va,al,h1,h2,h3,h4,h5,h6,h7⟩:=h
 refine⟨va,al,h1,h2,h3,h4,h5,h6,fun u=>?_⟩
 have e:(Q.take (i+1)).filter (fun q=>q.2.1.op==.name)=(Q.take i).filter (fun q=>q.2.1.op==.name):=by
  rw[List.take_add_one,hq,List.filter_append]
  simp[hop]
 rw[e];exact h7 u
theorem A1.step (ht:PredP.Trees G l) (hn:PredP.findNone G=none) (hnd:(PredP.names G).Nodup) {j i:Nat} {q:Nat×PredP.X×PredP.Ctx} {va:Nat→Value} {al:List (List Str)} (hq:(PredP.allX 0 l)[i]?=some q) (hop:q.2.1.op=.name) (hq1:q.1<(PredP.names G).length)
  (h1:GA gb G w ab n va al wr) (h2:Ups U al) (h3:hasOf (PredP.names G) al [] ((PredP.names G).getD 0 [])=true) (h4:∀j u,(ptrC ((PredP.allX 0 l).map fun q=>q.2.1.id))[j]?=some u→wr.cell? ⟨ga,j,none⟩=some u) (h5:ga<wr.heap.size) (h6:ab<ga)
  (h7:∀u,PredP.GSP (PredP.names G) (PredP.aftStep G (PredP.fsts G u).contains (PredP.nul G).contains u) (fun q=>q.2.1.s) (PredP.aftV (PredP.names G) (PredP.fsts G u).contains (PredP.nul G).contains u) j (((PredP.allX 0 l).take i).filter fun q=>q.2.1.op==.name) (hasOf (PredP.names G) al u))
  {bl:List Bool} {fl:List (List Str)} (hk:∀m,kOf (PredP.names G) bl m=(PredP.nul G).contains m) (hf:∀u m,hasOf (PredP.names G) fl u m=(PredP.fsts G u).contains m)
  {kk:Nat} (hkk:(PredP.names G)[kk]?=some q.2.1.s) {v:Value} {L:List Str} (hL:PredP.Tells L fun u=>PredP.aftC u (hasOf (PredP.names G) fl u) (kOf (PredP.names G) bl) (aAt al q.1 u) q.2.1 q.2.2) (hLU:∀u,u∈L→u∈U) (hv:strs wr v (PredP.withS (al.getD kk []) L)) :
  A1 gb U G w ab n ga (PredP.allX 0 l) j (i+1) (wr.setCell ⟨ab,kk,none⟩ v):=by
 have hK:kOf (PredP.names G) bl=(PredP.nul G).contains:=funext hk
 have hF:∀u,hasOf (PredP.names G) fl u=(PredP.fsts G u).contains:=fun u=>funext (hf u)
 obtain⟨q1,q2,q3⟩:=fOf_set (PredP.names G) al kk q.2.1.s (PredP.withS (al.getD kk []) L) hnd (by rw[h1.ln,h1.la]) hkk
 have hT:=(h2.tells (ns:=PredP.names G) q.2.1.s)
 rw[q3]at hT
 have hT2:=hT.with hL
 have hin:al.getD kk []∈al∨al.getD kk []=[]:=by
  rw[←q3];exact(fOf_mem _ al q.2.1.s).symm
 have hle:∀u m,hasOf (PredP.names G) al u m=true→hasOf (PredP.names G) (al.set kk (PredP.withS (al.getD kk []) L)) u m=true:=fun u m h=>by
  by_cases e:m=q.2.1.s
  ·subst e
   unfold hasOf at *
   rw[q2,hT2.is u,Bool.or_eq_true]
   exact .inl h
  ·unfold hasOf at *;rw[q1 m e];exact h
 have hA:∀u,aAt al q.1 u=hasOf (PredP.names G) al u ((PredP.names G).getD q.1 []):=fun u=>aAt_eq hnd (by rw[h1.ln,h1.la]) hq1 u
 refine⟨_,_,h1.setA kk hv,⟨fun ll hl=>?_,fun ll hl u hu'=>?_⟩,hle _ _ h3,fun j u hu=>(World.cell?_setCell_other _ _ _ _ (fun e=>by injection e with e1;omega)).trans (h4 j u hu),by simpa[World.setCell] using h5,h6,fun u=>?_⟩
 ·rcases List.mem_or_eq_of_mem_set hl with h | h
  ·exact h2.up _ h
  ·rw[h];exact hT2.up
 ·rcases List.mem_or_eq_of_mem_set hl with h | h
  ·exact h2.sub _ h _ hu'
  ·rw[h,PredP.withS_mem]at hu'
   rcases hu' with h' | h'
   ·rcases hin with e | e
    ·exact h2.sub _ e _ h'
    ·rw[e]at h';cases h'
   ·exact hLU u h'
 ·have e:((PredP.allX 0 l).take (i+1)).filter (fun q=>q.2.1.op==.name)=((PredP.allX 0 l).take i).filter (fun q=>q.2.1.op==.name)++[q]:=by
   rw[List.take_add_one,hq,List.filter_append]
   simp[hop]
  rw[e]
  refine(h7 u).more (PredP.aft_items ht hn _ _ u) (List.mem_filter.2 ⟨List.mem_of_getElem? hq,by simp[hop]⟩) (hle u) (fun h=>?_) (fun m h=>?_)
  ·unfold hasOf;rw[q2,hT2.is u,Bool.or_eq_true]
   right
   rw[hK,hF u,hA u]
   exact h
  ·by_cases em:m=q.2.1.s
   ·subst em
    unfold hasOf at h
    rw[q2,hT2.is u,Bool.or_eq_true]at h
    rcases h with h | h
    ·exact .inl h
    ·refine .inr ⟨rfl,?_⟩
     rw[hK,hF u,hA u]at h
     exact h
   ·left;unfold hasOf at *;rw[q1 m em]at h;exact h
theorem A1.next (ht:PredP.Trees G l) (hn:PredP.findNone G=none) {j i:Nat} (h:A1 gb U G w ab n ga (PredP.allX 0 l) j i wr) (hi:(PredP.allX 0 l).length≤i):A1 gb U G w ab n ga (PredP.allX 0 l) (j+1) 0 wr:=by
 obtain⟨va,al,h1,h2,h3,h4,h5,h6,h7⟩:=h
 refine⟨va,al,h1,h2,h3,h4,h5,h6,fun u=>?_⟩
 have h:=h7 u
 rw[List.take_of_length_le hi]at h
 refine h.next (PredP.aft_items ht hn _ _ u) (fun m hm hb=>?_)
 rw[Bool.and_eq_true,beq_iff_eq,beq_iff_eq]at hb
 rw[hb.2]
 have:(PredP.names G).getD 0 []=m:=by rw[List.getD_eq_getElem?_getD,←List.head?_eq_getElem?,hb.1];rfl
 rw[←this];exact h3
theorem A1.end' {i:Nat} {Q:List (Nat×PredP.X×PredP.Ctx)} (h:A1 gb U G w ab n ga Q n i wr):∃va al,GA gb G w ab n va al wr∧Ups U al∧∀u m,hasOf (PredP.names G) al u m=(PredP.afts G u).contains m:=by
 obtain⟨va,al,h1,h2,h3,h4,h5,h6,h7⟩:=h
 refine⟨va,al,h1,h2,fun u m=>?_⟩
 have:=h7 u
 rw[←h1.ln]at this
 exact this.end m
end
theorem behind_x (N0 gb:Nat) (U:List Str) (G:List Rule) (l:List PredP.X) (w0 w:World) (n:Nat) (bl:List Bool) (vf:Nat→Value) (fl:List (List Str)) (hT:GT N0 gb G l w) (hP:BegP N0 gb U G w0 n bl vf fl w)
  (hnd:(PredP.names G).Nodup) (hn0:0<n) (hnone:PredP.findNone G=none) (hctx:∀q,q∈PredP.allX 0 l→ctxAt N0 gb U (PredP.names G) w q.1 q.2.1 q.2.2∧q.1<(PredP.names G).length) (hU:U.length≤1000) (hU0:[]∈U) :
  Calls Tryz.prog 57 #[.pointer (some ⟨gb,0,none⟩)] w fun e w'=>e=.returned (.tuple #[])∧∃va al,GA gb G w w.heap.size n va al w'∧Ups U al∧∀u m,hasOf (PredP.names G) al u m=(PredP.afts G u).contains m:=by
 obtain⟨hB,hUp,hk,hf⟩:=hP
 have h12:=hB.n12
 obtain⟨f0,hrow⟩:=hB.row
 obtain⟨vN,c0,hN⟩:=hT.gm.nm
 obtain⟨aN,nN,cN,rfl,_,_,hNl,_⟩:=hN.gen
 have eN:nN=n:=by have:=hNl;have:=hB.ln;simp[strC]at *;omega
 subst eN
 have HLN:=hide hB.ln
 have HT:=hide hT
 have HB:=hide hB
 have HND:=hide hnd
 have HNO:=hide hnone
 have HX:=hide hctx
 have HK:=hide hk
 have HF:=hide hf
 have HUP:=hide hUp
 have HGA:=hide (GA.zero gb G w nN h12 hB.ln hrow)
 have hids:l.flatMap PredP.X.all=(PredP.allX 0 l).map (fun q=>q.2.1.id):=(all_ids 0 l).symm
 have hcn:=hT.cnt
 rw[hids]at hcn
 have hpos:0<((PredP.allX 0 l).map fun q=>q.2.1.id).length:=by
  rw[←hids]
  have hl:l.length=G.length:=hT.tr.length
  have hG:G.length=nN:=by have:=hB.ln;simpa[PredP.names] using this
  cases l with
  | nil=>simp at hl;omega
  | cons x l=>rw[List.flatMap_cons,List.length_append];have:=all_pos x;omega
 have HIDS:=hide hids
 have HC0:=hide c0
 have hmk:=run_make_row' (P:=Tryz.prog) 33 27 (.slice none 0 0) 24 (by kernel_rfl) info_words rfl .i64 .i64 nN (by omega) (by omega)
 have f5:=hrow.cell (i:=5) (by omega)
 have z5:=hrow.frozen 5
 have hglt:=hrow.lt
 clear hB hT hnd hnone hctx hk hf hUp hids hNl hN
 go_enter Tryz.func57,Tryz.ntmps57
 go_upto_region 1 with fail
 clear hmk f5 z5 hrow c0
 generalize (w.setCell ⟨gb,5,none⟩ (.slice (some ⟨w.heap.size,0,none⟩) nN nN)).alloc (.cells (madeCells #[.slice none 0 0] nN) 27)=W1 at HGA ⊢
 have hg1:=HGA.out
 have b5:=hg1.g5
 have ba:=hg1.a.cell hn0
 have bz:=hg1.a.frozen 0
 have bl5:=hg1.gl
 have bl6:=hg1.but.size
 have bl7:=hg1.a.lt
 go_upto_region 2 with fail
 have hg2:=hg1.first
 have hsz:w.heap.size<((W1.setCell ⟨w.heap.size,0,none⟩ (.slice (some ⟨W1.heap.size,0,none⟩) 1 1)).alloc (.cells #[.string ⟨#[]⟩] 9)).heap.size:=hg2.a.lt
 clear hg1 HGA b5 ba bz bl7
 generalize (W1.setCell ⟨w.heap.size,0,none⟩ (.slice (some ⟨W1.heap.size,0,none⟩) 1 1)).alloc (.cells #[.string ⟨#[]⟩] 9)=W2 at hg2 hsz ⊢
 have HGT:=hide (HT.out.but hg2.but (.inr rfl) (fun k hk=>hg2.c04 k (by omega)))
 go_wp2_with (go_at_call 54;refine(all_x N0 gb G l _ HGT.out).mono ?_;rintro e w1 ⟨vall,rfl,hown,hb1⟩;rw[HIDS.out]at hown;obtain⟨ga,capa,rfl,hga,hgal,hcs⟩:=own_some hown hpos;have hg3:=hg2.below hb1;have c0:=(hg3.c04 0 (by omega)).trans HC0.out)
 have hA0:A1 gb U G w w.heap.size nN ga (PredP.allX 0 l) 0 0 w1:=by
  refine⟨_,_,hg3,first_ups hU0 nN,(first_has HND.out HLN.out hn0 _ _).2 ⟨?_,rfl⟩,fun j u hu=>?_,hgal,by omega,fun u=>PredP.GSP.zero (PredP.aft_items HT.out.tr HNO.out _ _ u) fun m hm=>?_⟩
  ·have:=HLN.out
   rw[List.getD_eq_getElem?_getD,List.head?_eq_getElem?,List.getElem?_eq_getElem (by omega)];rfl
  ·have:=hcs j u hu
   have hadd:(⟨ga,0,none⟩:Addr).add j=⟨ga,j,none⟩:=by unfold Addr.add;split<;>simp_all
   rwa[hadd]at this
  ·obtain⟨h1,h2⟩:=(first_has HND.out HLN.out hn0 u m).1 hm
   exact⟨List.mem_of_mem_head? h1,by simp[h1,h2]⟩
 clear hg2 hg3 hown hcs HGT hsz c0 hb1 hpos
 rw[List.length_map]at hcn
 obtain⟨nq,hnqe⟩:∃nq,nq=(PredP.allX 0 l).length:=⟨_,rfl⟩
 have HNQ:Hid ((PredP.allX 0 l).length=nq):=hide hnqe.symm
 rw[←hnqe]at hcn ⊢
 clear hnqe
 go_loopw [28] (fun t wr=>∃j:Nat,j≤nN∧t=.int .i64 (j:Int)∧A1 gb U G w w.heap.size nN ga (PredP.allX 0 l) j 0 wr) (fun t _=>nN - (intOf t).toNat)
 case atStart=>exact⟨0,by omega,rfl,hA0⟩
 case round =>
  clear hA0
  obtain⟨j,hj,rfl,hA⟩:=hrel
  by_cases hj':j<nN
  ·go_wp2_with fail
   go_loopw [32] (fun t wr=>∃i:Nat,i≤nq∧t=.int .i64 (i:Int)∧A1 gb U G w w.heap.size nN ga (PredP.allX 0 l) j i wr) (fun t _=>nq - (intOf t).toNat)
   case atStart=>exact⟨0,by omega,rfl,hA⟩
   case round =>
    clear hA
    obtain⟨i,hi,rfl,hA⟩:=hrel
    by_cases hi':i<nq
    ·obtain⟨q,hq⟩:∃q,(PredP.allX 0 l)[i]?=some q:=⟨(PredP.allX 0 l)[i]'(by rw[HNQ.out];exact hi'),List.getElem?_eq_getElem _⟩
     obtain⟨kq,x,cx⟩:=q
     obtain⟨va,al,hG,hUa,h3,h4,h5,h6,h7⟩:=id hA
     have k0':wr.cell? ⟨ga,i,none⟩=some (.pointer (some ⟨x.id,0,none⟩)):=h4 i _ (by simp[ptrC,hq])
     obtain⟨hcx,hkq⟩:=HX.out _ (List.mem_of_getElem? hq)
     simp only at hcx hkq
     have hcw:=ctxAt.but hG.but (.inr rfl) _ _ hcx
     have hAE:=hG.ae HB.out HT.out HUP.out hU hUa
     obtain⟨⟨tie,hxx⟩,hnx,_⟩:=hcw.self
     have HLU:Hid (∀u,PredP.aftC u (hasOf (PredP.names G) fl u) (kOf (PredP.names G) bl) (aAt al kq u) x cx=true→u∈U):=hide (fun u hu=>aftC_U (fun n hn=>HUP.out.in' hn) (fun h=>hUa.at' h) cx x hcw hu)
     have HCX:=hide hcw
     have HKQ:=hide hkq
     have HQ:=hide hq
     have H4:=hide h4
     have H7:=hide h7
     have H3:=hide h3
     have HNX:=hide hnx
     obtain⟨xi,xo,xp,xs,xb,xl⟩:=x
     simp only[PredP.X.id]at k0'
     unfold xAt at hxx
     obtain⟨_,_,L,B,U0,k0,id0,hblk,_,_,_,_⟩:=hxx
     have e0:wr.cell? ⟨xi,0,none⟩=some (.string (opB xo)):=by simp only[World.cell?,hblk];rfl
     obtain⟨cs,hcs,e2⟩:=str_cell (show wr.cell? ⟨xi,2,none⟩=some (vS xs) by simp only[World.cell?,hblk];rfl)
     have HCS:=hide hcs
     clear hq hcx hkq hcw h3 h4 h7 hblk hcs hnx
     by_cases hop:xo=.name
     ·subst hop
      simp only[opB]at e0
      have hmem:xs∈PredP.names G:=by have:=HNX.out;unfold nmX at this;exact this.1 rfl
      obtain⟨kk,hr,hkk,_⟩:=ruleIx_some hmem
      have hkn:kk<nN:=by rw[←HLN.out];exact(List.getElem?_eq_some_iff.1 hkk).1
      have HRI:Hid (ruleIx (PredP.names G) (bs cs)=(kk:Int)):=hide (by rw[HCS.out];exact hr)
      have HKN:=hide hkk
      have HKK:Hid (kk<nN):=hide hkn
      have hGd:=hG.drew
      have d5:=hGd.g5
      obtain⟨vi,hvi⟩:∃vi,vi=va kk:=⟨_,rfl⟩
      have HVI:Hid (va kk=vi):=hide hvi.symm
      have di:=(hGd.a.cell hkn).trans (by rw[←hvi])
      have HLI:Hid ((al.getD kk []).length≤1000):=hide (by
       by_cases hil:kk<al.length
       ·rw[List.getD_eq_getElem?_getD,List.getElem?_eq_getElem hil]
        exact Nat.le_trans (PredP.rising_le (hUa.up _ (List.getElem_mem hil)) (hUa.sub _ (List.getElem_mem hil))) hU
       ·rw[List.getD_eq_getElem?_getD,List.getElem?_eq_none (by omega)];simp)
      clear hvi hr hkk hmem hA
      go_upto_region 10 with (go_at_call 11;refine(rule_x N0 gb _ _ hAE.fe.gm cs).mono ?_;rintro e w5 ⟨rfl,rfl⟩;rw[HRI.out])
      refine wp_region_T (S:=fun W'=>W'.cell? ⟨gb,5,none⟩=some (.slice (some ⟨w.heap.size,0,none⟩) nN nN)∧W'.cell? ⟨w.heap.size,kk,none⟩=some vi) (t:=17) (by kernel_rfl) ⟨d5,di⟩ ?_
      intro hHeld
      refine tkT 0 ?o0a ?v0a ?i0a hHeld ?_
      case i0a=>(refine⟨?_,?_,Or.inl ⟨?_,?_⟩⟩;simp only[gc3];rfl;exact fun _ _ _ h=>h;rfl;rintro W ⟨q0,q1⟩;go_simp;(try with_reducible rfl))
      simp only[Act.put,pu3]
      refine tkT 1 ?o1a ?v1a ?i1a hHeld ?_
      case i1a=>(refine⟨?_,?_,Or.inl ⟨?_,?_⟩⟩;simp only[gc3];rfl;exact fun _ _ _ h=>h;rfl;rintro W ⟨q0,q1⟩;go_simp;(try with_reducible rfl))
      simp only[Act.put,pu3]
      refine tkT 2 ?o2a ?v2a ?i2a hHeld ?_
      case i2a=>(refine⟨?_,?_,Or.inl ⟨?_,?_⟩⟩;simp only[gc3];rfl;exact fun _ _ _ h=>h;rfl;rintro W ⟨q0,q1⟩;go_simp;(try with_reducible rfl))
      simp only[Act.put,pu3]
      refine tkT 3 ?o3a ?v3a ?i3a hHeld ?_
      case i3a=>(refine⟨?_,?_,Or.inl ⟨?_,?_⟩⟩;simp only[gc3];rfl;exact fun _ _ _ h=>h;rfl;rintro W ⟨q0,q1⟩;go_simp;(try with_reducible rfl))
      simp only[Act.put,pu3]
      refine tkT 4 ?o4a ?v4a ?i4a hHeld ?_
      case i4a=>(refine⟨?_,?_,Or.inl ⟨?_,?_⟩⟩;simp only[gc3];rfl;exact fun _ _ _ h=>h;rfl;rintro W ⟨q0,q1⟩;go_simp;(try with_reducible rfl))
      simp only[Act.put,pu3]
      refine tkT 5 ?o5a ?v5a ?i5a hHeld ?_
      case i5a=>(refine⟨?_,?_,Or.inl ⟨?_,?_⟩⟩;simp only[gc3];rfl;exact fun _ _ _ h=>h;rfl;rintro W ⟨q0,q1⟩;go_simp;(try with_reducible rfl))
      simp only[Act.put,pu3]
      refine tkT 6 ?o6a ?v6a ?i6a hHeld ?_
      case i6a=>(refine⟨?_,?_,Or.inl ⟨?_,?_⟩⟩;simp only[gc3];rfl;exact fun _ _ _ h=>h;rfl;rintro W ⟨q0,q1⟩;go_simp;(try with_reducible rfl))
      simp only[Act.put,pu3]
      refine tkT 7 ?o7a ?v7a ?i7a hHeld ?_
      case i7a=>(refine⟨?_,?_,Or.inl ⟨?_,?_⟩⟩;simp only[gc3];rfl;exact fun _ _ _ h=>h;rfl;rintro W ⟨q0,q1⟩;go_simp;(try with_reducible rfl))
      simp only[Act.put,pu3]
      refine tkT 8 ?o8a ?v8a ?i8a hHeld ?_
      case i8a=>(refine⟨?_,?_,Or.inl ⟨?_,?_⟩⟩;simp only[gc3];rfl;exact fun _ _ _ h=>h;rfl;rintro W ⟨q0,q1⟩;go_simp;(try with_reducible rfl))
      simp only[Act.put,pu3]
      refine tkT 9 ?o9a ?v9a ?i9a hHeld ?_
      case i9a=>(refine⟨?_,?_,Or.inl ⟨?_,?_⟩⟩;simp only[gc3];rfl;exact fun _ _ _ h=>h;rfl;rintro W ⟨q0,q1⟩;go_simp;(try with_reducible rfl))
      simp only[Act.put,pu3]
      refine tkT 10 ?o10a ?v10a ?i10a hHeld ?_
      case i10a=>(refine⟨?_,?_,Or.inl ⟨?_,?_⟩⟩;simp only[gc3];rfl;exact fun _ _ _ h=>h;rfl;rintro W ⟨q0,q1⟩;go_simp;(try with_reducible rfl))
      simp only[Act.put,pu3]
      refine tkT 11 ?o11a ?v11a ?i11a hHeld ?_
      case i11a=>(refine⟨?_,?_,Or.inl ⟨?_,?_⟩⟩;simp only[gc3];rfl;exact fun _ _ _ h=>h;rfl;rintro W ⟨q0,q1⟩;go_simp;(try with_reducible rfl))
      simp only[Act.put,pu3]
      refine tkT 12 ?o12a ?v12a ?i12a hHeld ?_
      case i12a=>(refine⟨?_,?_,Or.inl ⟨?_,?_⟩⟩;simp only[gc3];rfl;exact fun _ _ _ h=>h;rfl;rintro W ⟨q0,q1⟩;go_simp;(try with_reducible rfl))
      simp only[Act.put,pu3]
      refine tkT 13 ?o13a ?v13a ?i13a hHeld ?_
      case i13a=>(refine⟨?_,?_,Or.inl ⟨?_,?_⟩⟩;simp only[gc3];rfl;exact fun _ _ _ h=>h;rfl;rintro W ⟨q0,q1⟩;go_simp;(try with_reducible rfl))
      simp only[Act.put,pu3]
      refine wpAnyT_one (i:=14) (o:=?o14a) (by kernel_rfl) ?i14a (fun K hK=>?c14a)
      case i14a=>(simp only[gc3];rfl)
      go_simp
      go_at_call 85
      refine(after_all cx _ N0 gb U _ bl fl al kq _ (hAE.below (Below.refl _ _).drew) HKQ.out (ctxAt.below (Below.refl _ _).drew _ _ HCX.out)).mono ?_
      rintro e wT ⟨vT,LT,rfl,hsT,htT,hbT⟩
      have hGT:=hGd.below hbT
      have t5:=hGT.g5
      have te:=(hGT.a.cell HKK.out).trans (by rw[HVI.out])
      have hlT:LT.length≤1000:=(Nat.le_trans (htT.length (m:=U) (fun u hu=>HLU.out u hu)) hU)
      refine hK.out _ _ (fun _=>⟨t5,te⟩) ?_
      clear hK K
      try simp only[Act.put,pu3]
      refine wpAnyT_one (i:=15) (o:=?o15a) (by kernel_rfl) ?i15a (fun K hK=>?c15a)
      case i15a=>(simp only[gc3];rfl)
      go_simp
      go_at_call 24
      refine(xwith_any _ _ _ (al.getD kk []) LT (HVI.out▸hGT.ls kk HKK.out) hsT (by have h1:=hlT;have h2:=HLI.out;omega)).mono ?_
      rintro e wS ⟨vS,rfl,hsS,hbS⟩
      obtain⟨sa,sn,sc,rfl,_⟩:=hsS.gen
      have hGS:=hGT.below hbS
      have s5:=hGS.g5
      have se:=(hGS.a.cell HKK.out).trans (by rw[HVI.out])
      have sf:=hGS.a.frozen kk
      have hkk':=HKK.out
      refine hK.out _ _ (fun _=>⟨s5,se⟩) ?_
      clear hK K
      try simp only[Act.put,pu3]
      refine wpAnyT_one (i:=16) (o:=?o16a) (by kernel_rfl) ?i16a (fun K hK=>?c16a)
      case i16a=>(simp only[gc3];rfl)
      go_simp
      refine hK.out _ _ (fun _=>⟨s5,se⟩) ?_
      clear hK K
      try simp only[Act.put,pu3]
      refine wpAnyT_one (i:=17) (o:=?o17a) (by kernel_rfl) ?i17a (fun K hK=>?c17a)
      case i17a=>(simp only[gc3];rfl)
      go_simp
      refine hK.out _ _ (fun h=>absurd rfl h) ?_
      clear hK K
      try simp only[Act.put,pu3]
      refine wpAnyT_done (by kernel_rfl) ?_ _
      have hb2:=Below.all hbT hbS
      have hA2:=A1.step (ga:=ga) HT.out.tr HNO.out HND.out HQ.out rfl HKQ.out hGS hUa H3.out (fun j u hu=>(hb2.cell (p:=⟨ga,j,none⟩) h5).trans (H4.out j u hu)) (Nat.lt_of_lt_of_le h5 hb2.size) h6 H7.out HK.out HF.out HKN.out htT (fun u hu=>HLU.out u ((htT.mem u).1 hu)) hsS
      generalize wS.setCell ⟨w.heap.size,kk,none⟩ (.slice sa sn sc)=wZ at hA2 ⊢
      go_wp2_with fail
      exact⟨⟨i+1,by omega,by go_num,hA2⟩,by simp[intOf];omega⟩
     ·have hA2:=hA.skip HQ.out hop
      clear hA hAE hG H4 H7 H3 h5 h6
      cases xo with
      | name=>exact absurd rfl hop
      | word | row | bar | opt | loop =>
       simp only[opB]at e0
       go_wp2_with fail
       exact⟨⟨i+1,by omega,by go_num,hA2⟩,by simp[intOf];omega⟩
    ·go_wp2_with fail
     exact⟨⟨j+1,by omega,by go_num,hA.next HT.out.tr HNO.out (by rw[HNQ.out];omega)⟩,by simp[intOf];omega⟩
  ·have hjn:j=nN:=by omega
   subst hjn
   have hP:=hA.end'
   go_wp2_with fail
   go_end0
   exact⟨rfl,hP⟩
end Go.Proofs.YtpcmemcanpgadaaGreatDoor
