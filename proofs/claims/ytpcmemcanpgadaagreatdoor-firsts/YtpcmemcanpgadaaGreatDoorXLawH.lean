import Derived.Test.YtpcmemcanpgadaaGreatDoorXLawG
import Derived.Test.YtpcmemcanpgadaaGreatDoorPureX
set_option maxHeartbeats 4000000
set_option maxRecDepth 100000
namespace Go.Proofs.YtpcmemcanpgadaaGreatDoor
open PredP (hide Str Rule bs)
section
open Go.RowKit
theorem LS.zero {w wr:World} {n:Nat} {f:Nat→Value} (hl:Below w.heap.size w wr) (hr:wr.rowIs w.heap.size 55 3 f) :
  LS w n wr.heap.size (wr.heap.size+1) (List.replicate n false) (List.replicate n false) ((wr.alloc (.cells (madeCells #[.bool false] n) 4)).alloc (.cells (madeCells #[.bool false] n) 4)):=by
 have h1:=hr.lt
 have hb:=((Below.refl wr.heap.size wr).alloc (Nat.le_refl _) (.cells (madeCells #[.bool false] n) 4)).alloc (by simp) (.cells (madeCells #[.bool false] n) 4)
 have r2:=row_made (wr.alloc (.cells (madeCells #[.bool false] n) 4)) n
 rw[World.size_alloc]at r2
 exact⟨Below.all hl hb,⟨f,hr.of_block (hb.block _ h1)⟩,(row_made wr n).alloc _,r2,h1,by omega,by omega,by simp,by simp⟩
theorem sets_off {N0 gb:Nat} {U:List Str} {G:List Rule} {w1 w2:World} {eb fb ab n:Nat} {bl:List Bool} {vf va:Nat→Value} {fl al:List (List Str)} {w4 w5:World} {rb:Nat} {f:Nat→Value} (hB:GB N0 gb G w1 eb fb n bl vf fl w4) (hA:GA gb G w2 ab n va al w4)
  (hr:w4.rowIs rb 55 3 f) (hb:But rb w4 w5) (h1:rb<w1.heap.size) (h2:rb<w2.heap.size) (h3:rb≠gb) (h4:N0≤rb) (hu:Ups U fl) (hU:U.length≤1000) (ha:Ups U al)
  (hk:∀m,kOf (PredP.names G) bl m=(PredP.nul G).contains m) (hf:∀u m,hasOf (PredP.names G) fl u m=(PredP.fsts G u).contains m) (hal:∀u m,hasOf (PredP.names G) al u m=(PredP.afts G u).contains m):Sets N0 gb G w5:=by
 have hg:gb<w4.heap.size:=Nat.lt_of_lt_of_le hB.gl hB.but.size
 have q:∀k,w5.cell? ⟨gb,k,none⟩=w4.cell? ⟨gb,k,none⟩:=fun k=>hb.cell hg (fun e=>h3 e.symm)
 have x1:=hB.he
 have x2:=hB.hf
 have x3:=hA.ha
 have hst:∀v L,strs w4 v L→strs w5 v L:=fun v L h=>h.carry hb.size (fun x hl hs=>hb.block x hl (fun e=>by
  obtain⟨cs,f',hx⟩:=hs
  obtain⟨c,hc,_⟩:=hr
  rw[e,hc]at hx
  simp at hx))
 exact⟨U,n,bl,vf,va,fl,al,eb,fb,ab,⟨by omega,by omega,by omega⟩,⟨(q 3).trans hB.g3,(q 4).trans hB.g4,(q 5).trans hA.g5⟩,hB.e.of_block (hb.block _ hB.e.lt (by omega)),hB.f.of_block (hb.block _ hB.f.lt (by omega)),hA.a.of_block (hb.block _ hA.a.lt (by omega)),
  fun j hj=>hst _ _ (hB.ls j hj),fun j hj=>hst _ _ (hA.ls j hj),⟨hB.lb,hB.lf,hA.la,hB.ln,hB.n12⟩,⟨hu,ha,hU⟩,hk,hf,hal⟩
theorem lawful_x (N0 gb:Nat) (U:List Str) (G:List Rule) (l:List PredP.X) (w:World) (hT:GT N0 gb G l w) {f0:Nat→Value} (hrow:w.rowIs gb 35 7 f0) {lo hi:Nat} (hp:PredP.posG lo hi G)
  (hwd:∀x,x∈l→wdX U x) (hU:U.length≤1000) (hU0:[]∈U):Calls Tryz.prog 35 #[.pointer (some ⟨gb,0,none⟩)] w (LawPost N0 gb G w (PredP.check G)):=by
 obtain⟨vN,c0,hN⟩:=hT.gm.nm
 obtain⟨vA,c1,hA⟩:=hT.ats
 obtain⟨vE,c2,hE⟩:=hT.exs
 obtain⟨aN,nN,cN,rfl,_,_,hNl,hNc⟩:=hN.gen
 obtain⟨aA,nA,cA,rfl,_,_,hAl,hAc⟩:=hA.gen
 obtain⟨aE,nE,cE,rfl,_,_,hEl,hEc⟩:=hE.gen
 have eN:nN=G.length:=by have:=hNl;simp[strC,PredP.names]at this;omega
 have eA:nA=G.length:=by have:=hAl;simp[intC]at this;omega
 have eE:nE=G.length:=by have:=hEl;have:=hT.tr.length;simp[ptrC]at *;omega
 subst eN
 subst eA
 subst eE
 obtain⟨n,hn⟩:∃n,n=G.length:=⟨_,rfl⟩
 have HGL:Hid (G.length=n):=hide hn.symm
 have HTL:Hid (l.length=n):=hide (hT.tr.length.trans hn.symm)
 have HNL:Hid ((PredP.names G).length=n):=hide (by simp[PredP.names,hn])
 rw[←hn]at c0 c1 c2 hNc hAc hEc
 have hnm:n≤9223372036854775807:=by have:=hN.gen;obtain⟨_,m,_,e,hm,_⟩:=this;rw[hn];unfold maxLen at hm;cases e;omega
 have HT:=hide hT
 have HP:=hide hp
 have HWD:=hide hwd
 have HC0:=hide c0
 have HC1:=hide c1
 have HC2:=hide c2
 have HNC:=hide hNc
 have HAC:=hide hAc
 have HEC:=hide hEc
 have HROW:=hide hrow
 have hgl:=hrow.lt
 have hlow:Below w.heap.size w (w.alloc (.cells #[.int .i64 0,.int .i64 0,.string ⟨#[]⟩] 55)):=(Below.refl _ w).alloc (Nat.le_refl _) _
 have hres:(w.alloc (.cells #[.int .i64 0,.int .i64 0,.string ⟨#[]⟩] 55)).rowIs w.heap.size 55 3 (fun i=>(#[.int .i64 0,.int .i64 0,.string ⟨#[]⟩]:Array Value)[i]?.getD (.int .i64 0)) :=
  World.rowIs_alloc w #[.int .i64 0,.int .i64 0,.string ⟨#[]⟩] 55 _ (fun i hi=>by rw[Array.getElem?_eq_getElem hi];rfl)
 clear hn hNl hAl hEl hNc hAc hEc hN hA hE hT hp hwd hrow
 go_enter Tryz.func35,Tryz.ntmps35
 go_upto_region 1 with fail
 generalize w.alloc (.cells #[.int .i64 0,.int .i64 0,.string ⟨#[]⟩] 55)=W0 at hlow hres ⊢
 have k0:=hres.cell (i:=0) (by omega)
 have k1:=hres.cell (i:=1) (by omega)
 have k2:=hres.cell (i:=2) (by omega)
 have z0:=hres.frozen 0
 have z1:=hres.frozen 1
 have z2:=hres.frozen 2
 have hlt:=hres.lt
 have q0:=(hlow.cell (p:=⟨gb,0,none⟩) hgl).trans c0
 have q1:=(hlow.cell (p:=⟨gb,1,none⟩) hgl).trans c1
 clear c0 c1 c2
 by_cases h0:n=0
 ·subst h0
  have hck:=chk_empty HGL.out
  have HCK:=hide hck
  clear hck
  go_wp2_with fail
  exact bodyPost_ret (v:=fltV 2 0 ⟨#[]⟩) (by simp[results,Tryz.results35,go_sem,k0,k1,k2]) rfl ⟨2,0,⟨#[]⟩,rfl,by rw[HCK.out];rfl,by rw[HCK.out];rfl,by rw[HCK.out];exact rfl,But.of_below (((hlow.setCell (by simp) _).setCell (by simp) _).setCell (by simp) _),(fun k _=>(((hlow.setCell (by simp) _).setCell (by simp) _).setCell (by simp) _).cell (p:=⟨gb,k,none⟩) hgl),fun G' h=>by rw[HCK.out]at h;cases h⟩
 by_cases h12:12<n
 ·have HCK:=hide (chk_many (by rw[HGL.out];exact h12))
  go_wp2_with fail
  exact bodyPost_ret (v:=fltV 3 0 ⟨#[]⟩) (by simp[results,Tryz.results35,go_sem,k0,k1,k2]) rfl ⟨3,0,⟨#[]⟩,rfl,by rw[HCK.out];rfl,by rw[HCK.out];rfl,by rw[HCK.out];exact rfl,But.of_below (((hlow.setCell (by simp) _).setCell (by simp) _).setCell (by simp) _),(fun k _=>(((hlow.setCell (by simp) _).setCell (by simp) _).setCell (by simp) _).cell (p:=⟨gb,k,none⟩) hgl),fun G' h=>by rw[HCK.out]at h;cases h⟩
 have hG12:G.length≤12:=by rw[HGL.out];omega
 have hG0:G.length≠0:=by rw[HGL.out];exact h0
 have HG12:=hide hG12
 have HG0:=hide hG0
 clear hG12 hG0
 rcases HNC.out with hz | ⟨gn,rfl,hokn,hgn,hncell⟩
 ·exact absurd hz h0
 rcases HAC.out with hz | ⟨gA,rfl,hokA,hgA,hAcell⟩
 ·exact absurd hz h0
 have hd0:((n:Int)==0)=false:=by simp;exact h0
 have hd12:decide ((12:Int)<(n:Int))=false:=by simp;omega
 go_wp2_with fail
 go_loopw [35] (fun t wr=>wr=W0∧∃k:Nat,k≤n∧t=.int .i64 (k:Int)∧Tw G k) (fun t _=>n - (intOf t).toNat)
 case atStart=>exact⟨rfl,0,by omega,rfl,Tw.zero G⟩
 case round =>
  obtain⟨rfl,k,hk,rfl,hTw⟩:=hrel
  by_cases hk':k<n
  ·obtain⟨r,hr⟩:∃r,G[k]?=some r:=⟨G[k]'(by rw[HGL.out];exact hk'),List.getElem?_eq_getElem _⟩
   have hnk:(PredP.names G)[k]?=some r.name:=by simp[PredP.names,hr]
   obtain⟨c,hcx,n0⟩:=str_cell (hncell k _ (strC_get hnk))
   have m0:=(hlow.cell (p:=⟨gn,k,none⟩) hgn).trans n0
   have m1:=(hlow.cell (p:=⟨gA,k,none⟩) hgA).trans (hAcell k (.int .i64 (r.pos:Int)) (by simp[intC,hr]))
   obtain⟨j,hj,hjk,hjm⟩:=ix_lt hnk
   have HRI:Hid (ruleIx (PredP.names G) (bs c)=(j:Int)):=hide (by rw[hcx];exact hj)
   have HCX:=hide hcx
   have HR:=hide hr
   have HTw:=hide hTw
   have HJM:=hide hjm
   have HGM:=hide (HT.out.gm.below hlow)
   clear hcx hr hTw hjm hj hnk n0
   by_cases hjk':j<k
   ·have HCK:=hide (chk_twice HG0.out HG12.out (HTw.out.found HR.out (HJM.out.1 hjk')))
    go_wp2_with (go_at_call 11;refine(rule_x N0 gb _ _ HGM.out c).mono ?_;rintro e w5 ⟨rfl,rfl⟩;rw[HRI.out])
    exact bodyPost_ret (v:=fltV 6 r.pos c) (by simp[results,Tryz.results35,go_sem,k0,k1,k2]) rfl ⟨6,r.pos,c,rfl,by rw[HCK.out];rfl,by rw[HCK.out];rfl,by rw[HCK.out];exact HCX.out,But.of_below (((hlow.setCell (by simp) _).setCell (by simp) _).setCell (by simp) _),(fun k _=>(((hlow.setCell (by simp) _).setCell (by simp) _).setCell (by simp) _).cell (p:=⟨gb,k,none⟩) hgl),fun G' h=>by rw[HCK.out]at h;cases h⟩
   ·have hdec:decide ((j:Int)<(k:Int))=false:=by simp;omega
    go_wp2_with (go_at_call 11;refine(rule_x N0 gb _ _ HGM.out c).mono ?_;rintro e w5 ⟨rfl,rfl⟩;rw[HRI.out])
    exact⟨⟨trivial,k+1,by omega,by go_num,HTw.out.next HR.out (fun h=>hjk' (HJM.out.2 h))⟩,by simp[intOf];omega⟩
  ·have HTE:=hide (hTw.end' (by rw[HGL.out];omega))
   have HND:=hide (PredP.findTwice_none HTE.out).2
   have HNCE:=hide hncell
   have HACE:=hide hAcell
   clear hTw hncell hAcell
   have HGTx:=hide (HT.out.below hlow)
   have hids:l.flatMap PredP.X.all=(PredP.allX 0 l).map (fun q=>q.2.1.id):=(all_ids 0 l).symm
   have HIDS:=hide hids
   have hcn:=HT.out.cnt
   rw[hids,List.length_map]at hcn
   have hpos:0<((PredP.allX 0 l).map fun q=>q.2.1.id).length:=by
    rw[←hids]
    have hl:=HTL.out
    cases l with
    | nil=>simp at hl;omega
    | cons x l=>rw[List.flatMap_cons,List.length_append];have:=all_pos x;omega
   clear hids
   go_wp2_with (go_at_call 54;refine(all_x N0 gb G l _ HGTx.out).mono ?_;rintro e w1 ⟨vall,rfl,hown,hb1⟩;rw[HIDS.out]at hown;obtain⟨ga,capa,rfl,hga,hgal,hcs⟩:=own_some hown hpos)
   have HPOS:=hide hpos
   have hcells:∀j u,(ptrC ((PredP.allX 0 l).map fun q=>q.2.1.id))[j]?=some u→w1.cell? ⟨ga,j,none⟩=some u:=fun j u hu=>by
    have:=hcs j u hu
    have hadd:(⟨ga,0,none⟩:Addr).add j=⟨ga,j,none⟩:=by unfold Addr.add;split<;>simp_all
    rwa[hadd]at this
   have HCL:=hide hcells
   have hlow1:=Below.all hlow hb1
   have hres1:=hres.of_block (hb1.block _ hres.lt)
   obtain⟨nq,hnqe⟩:∃nq,nq=(PredP.allX 0 l).length:=⟨_,rfl⟩
   have HNQ:Hid ((PredP.allX 0 l).length=nq):=hide hnqe.symm
   rw[←hnqe]at hcn ⊢
   clear hnqe hcells hcs hown hpos q0 q1 k0 k1 k2 z0 z1 z2 hlow hres hlt HGTx hb1
   have k0:=hres1.cell (i:=0) (by omega)
   have k1:=hres1.cell (i:=1) (by omega)
   have k2:=hres1.cell (i:=2) (by omega)
   have z0:=hres1.frozen 0
   have z1:=hres1.frozen 1
   have z2:=hres1.frozen 2
   have hlt:=hres1.lt
   have HGT1:=hide (HT.out.below hlow1)
   go_loopw [58] (fun t wr=>wr=w1∧∃i:Nat,i≤nq∧t=.int .i64 (i:Int)∧Nn G (PredP.allX 0 l) i) (fun t _=>nq - (intOf t).toNat)
   case atStart=>exact⟨rfl,0,by omega,rfl,Nn.zero HT.out.tr⟩
   case round =>
    obtain⟨rfl,i,hi,rfl,hNn⟩:=hrel
    by_cases hi':i<nq
    ·obtain⟨q,hq⟩:∃q,(PredP.allX 0 l)[i]?=some q:=⟨(PredP.allX 0 l)[i]'(by rw[HNQ.out];exact hi'),List.getElem?_eq_getElem _⟩
     obtain⟨kq,x,cx⟩:=q
     have x0:=HCL.out i (.pointer (some ⟨x.id,0,none⟩)) (by simp[ptrC,hq])
     obtain⟨⟨up,hxx⟩,_⟩:=HGT1.out.part (List.mem_of_getElem? hq)
     simp only at hxx
     obtain⟨xi,xo,xp,xs,xb,xl⟩:=x
     simp only[PredP.X.id]at x0
     unfold xAt at hxx
     obtain⟨_,_,L,B,U0,kk0,id0,hblk,_,_,_,_⟩:=hxx
     have e0:wr.cell? ⟨xi,0,none⟩=some (.string (opB xo)):=by simp only[World.cell?,hblk];rfl
     have e1:wr.cell? ⟨xi,1,none⟩=some (.int .i64 (xp:Int)):=by simp only[World.cell?,hblk];rfl
     obtain⟨cs,hcs,e2⟩:=str_cell (show wr.cell? ⟨xi,2,none⟩=some (vS xs) by simp only[World.cell?,hblk];rfl)
     have HCS:=hide hcs
     have HQ:=hide hq
     have HNN:=hide hNn
     clear hq hblk hcs hNn
     by_cases hop:xo=.name
     ·subst hop
      simp only[opB]at e0
      by_cases hmem:xs∈PredP.names G
      ·obtain⟨kk,hr,_,_⟩:=ruleIx_some hmem
       have HRI:Hid (ruleIx (PredP.names G) (bs cs)=(kk:Int)):=hide (by rw[HCS.out];exact hr)
       have hdec:decide ((kk:Int)<0)=false:=by simp
       clear hr
       go_wp2_with (go_at_call 11;refine(rule_x N0 gb _ _ HGT1.out.gm cs).mono ?_;rintro e w5 ⟨rfl,rfl⟩;rw[HRI.out])
       exact⟨⟨trivial,i+1,by omega,by go_num,HNN.out.skip HQ.out (fun _=>hmem)⟩,by simp[intOf];omega⟩
      ·have HRI:Hid (ruleIx (PredP.names G) (bs cs)=-1):=hide (by rw[HCS.out];exact ruleIx_none hmem)
       have HCK:=hide (chk_none HG0.out HG12.out HTE.out (HNN.out.found HQ.out rfl hmem))
       have e1d:wr.drew.cell? ⟨xi,1,none⟩=some (.int .i64 (xp:Int)):=e1
       have e2d:wr.drew.cell? ⟨xi,2,none⟩=some (.string cs):=e2
       have hlowd:Below w.heap.size w wr.drew:=hlow1.drew
       go_upto_region 15 with (go_at_call 11;refine(rule_x N0 gb _ _ HGT1.out.gm cs).mono ?_;rintro e w5 ⟨rfl,rfl⟩;rw[HRI.out])
       refine wp_region_T (S:=fun W'=>W'.cell? ⟨xi,1,none⟩=some (.int .i64 (xp:Int))∧W'.cell? ⟨xi,2,none⟩=some (.string cs)) (t:=9) (by kernel_rfl) ⟨e1d,e2d⟩ ?_
       intro hHeld
       refine tkT 0 ?o0n ?v0n ?i0n hHeld ?_
       case i0n=>(refine⟨?_,?_,Or.inl ⟨?_,?_⟩⟩;simp only[gc3];rfl;exact fun _ _ _ h=>h;rfl;rintro W ⟨q0,q1⟩;go_simp;(try with_reducible rfl))
       simp only[Act.put,pu3]
       refine tkT 1 ?o1n ?v1n ?i1n hHeld ?_
       case i1n=>(refine⟨?_,?_,Or.inl ⟨?_,?_⟩⟩;simp only[gc3];rfl;exact fun _ _ _ h=>h;rfl;rintro W ⟨q0,q1⟩;go_simp;(try with_reducible rfl))
       simp only[Act.put,pu3]
       refine tkT 2 ?o2n ?v2n ?i2n hHeld ?_
       case i2n=>(refine⟨?_,?_,Or.inl ⟨?_,?_⟩⟩;simp only[gc3];rfl;exact fun _ _ _ h=>h;rfl;rintro W ⟨q0,q1⟩;go_simp;(try with_reducible rfl))
       simp only[Act.put,pu3]
       refine tkT 3 ?o3n ?v3n ?i3n hHeld ?_
       case i3n=>(refine⟨?_,?_,Or.inl ⟨?_,?_⟩⟩;simp only[gc3];rfl;exact fun _ _ _ h=>h;rfl;rintro W ⟨q0,q1⟩;go_simp;(try with_reducible rfl))
       simp only[Act.put,pu3]
       refine tkT 4 ?o4n ?v4n ?i4n hHeld ?_
       case i4n=>(refine⟨?_,?_,Or.inl ⟨?_,?_⟩⟩;simp only[gc3];rfl;exact fun _ _ _ h=>h;rfl;rintro W ⟨q0,q1⟩;go_simp;(try with_reducible rfl))
       simp only[Act.put,pu3]
       refine tkT 5 ?o5n ?v5n ?i5n hHeld ?_
       case i5n=>(refine⟨?_,?_,Or.inl ⟨?_,?_⟩⟩;simp only[gc3];rfl;exact fun _ _ _ h=>h;rfl;rintro W ⟨q0,q1⟩;go_simp;(try with_reducible rfl))
       simp only[Act.put,pu3]
       refine tkT 6 ?o6n ?v6n ?i6n hHeld ?_
       case i6n=>(refine⟨?_,?_,Or.inl ⟨?_,?_⟩⟩;simp only[gc3];rfl;exact fun _ _ _ h=>h;rfl;rintro W ⟨q0,q1⟩;go_simp;(try with_reducible rfl))
       simp only[Act.put,pu3]
       refine tkT 7 ?o7n ?v7n ?i7n hHeld ?_
       case i7n=>(refine⟨?_,?_,Or.inl ⟨?_,?_⟩⟩;simp only[gc3];rfl;exact fun _ _ _ h=>h;rfl;rintro W ⟨q0,q1⟩;go_simp;(try with_reducible rfl))
       simp only[Act.put,pu3]
       refine tkT 8 ?o8n ?v8n ?i8n hHeld ?_
       case i8n=>(refine⟨?_,?_,Or.inl ⟨?_,?_⟩⟩;simp only[gc3];rfl;exact fun _ _ _ h=>h;rfl;rintro W ⟨q0,q1⟩;go_simp;(try with_reducible rfl))
       simp only[Act.put,pu3]
       refine wpAnyT_one (i:=9) (o:=?o9n) (by kernel_rfl) ?i9n (fun K hK=>?c9n)
       case i9n=>(simp only[gc3];rfl)
       go_simp
       refine hK.out _ _ (fun h=>absurd rfl h) ?_
       clear hK K
       try simp only[Act.put,pu3]
       refine wpAnyT_done (by kernel_rfl) ?_ _
       go_wp2_with fail
       exact bodyPost_ret (v:=fltV 7 xp cs) (by simp[results,Tryz.results35,go_sem,k0,k1,k2]) rfl ⟨7,xp,cs,rfl,by rw[HCK.out];rfl,by rw[HCK.out];rfl,by rw[HCK.out];exact HCS.out,But.of_below (((hlowd.setCell (by simp) _).setCell (by simp) _).setCell (by simp) _),(fun k _=>(((hlowd.setCell (by simp) _).setCell (by simp) _).setCell (by simp) _).cell (p:=⟨gb,k,none⟩) hgl),fun G' h=>by rw[HCK.out]at h;cases h⟩
     ·have hN2:=HNN.out.skip HQ.out (fun h=>absurd h hop)
      cases xo with
      | name=>exact absurd rfl hop
      | word | row | bar | opt | loop =>
       simp only[opB]at e0
       go_wp2_with fail
       exact⟨⟨trivial,i+1,by omega,by go_num,hN2⟩,by simp[intOf];omega⟩
    ·have HNE:=hide (hNn.end' (by rw[HNQ.out];omega))
     clear hNn
     have hmk:=run_make_row' (P:=Tryz.prog) 32 4 (.bool false) 1 (by kernel_rfl) info_bool rfl .i64 .i64 n (by omega) (by omega)
     have q0:=(hlow1.cell (p:=⟨gb,0,none⟩) hgl).trans HC0.out
     have hgw:gb<wr.heap.size:=Nat.lt_of_lt_of_le hgl hlow1.size
     have HL0:=hide (LS.zero (n:=n) hlow1 hres1)
     have HNM:=hide (HT.out.names HNE.out)
     obtain⟨cb,hcb⟩:∃cb,cb=wr.heap.size+1:=⟨_,rfl⟩
     obtain⟨eb0,heb⟩:∃eb,eb=wr.heap.size:=⟨_,rfl⟩
     go_upto_region 19 with fail
     have hL0:=HL0.out
     clear HL0
     rw[←hcb,←heb]at hL0 ⊢
     generalize (wr.alloc (.cells (madeCells #[.bool false] n) 4)).alloc (.cells (madeCells #[.bool false] n) 4)=W3 at hL0 ⊢
     clear q0 hgw hcb heb k0 k1 k2 z0 z1 z2 hlt hlow1 hres1 HGT1 HCL hgal hga
     have hLc:=hL0.setC 0 true
     have y0:=hL0.c.cell (i:=0) (by omega)
     have y1:=hL0.c.frozen 0
     have y2:=hL0.c.lt
     clear hL0
     have q0:=(hLc.low.cell (p:=⟨gb,0,none⟩) hgl).trans HC0.out
     go_upto_region 20 with fail
     generalize W3.setCell ⟨cb,0,none⟩ (.bool true)=W4 at hLc q0 ⊢
     clear y0 y1 y2
     have HE0:=hide (Ej.zero G n)
     have HJ0:=hide (Cj.zero HT.out.tr HNE.out HND.out HG0.out)
     rw[HGL.out]at HJ0
     go_wp2_with fail
     clear q0
     rcases HEC.out with hz | ⟨ge,rfl,hoke,hge,hecell⟩
     ·exact absurd hz h0
     go_loopw [7,105] (fun v t wi=>∃(j eb:Nat) (bl blc:List Bool),j≤n∧t=.int .i64 (j:Int)∧v=.slice (some ⟨eb,0,none⟩) n n∧LS w n eb cb bl blc wi∧Ej G j bl∧Cj G (PredP.allX 0 l) j 0 blc) (fun _ t _=>n - (intOf t).toNat)
     case atStart=>exact⟨0,eb0,_,_,by omega,rfl,rfl,hLc,HE0.out,HJ0.out⟩
     case round =>
      clear hLc HE0 HJ0
      obtain⟨j,eb,bl,blc,hj,rfl,rfl,hL,hEj,hCj⟩:=hrel
      have HEJ:=hide hEj
      have HCJ:=hide hCj
      clear hEj hCj
      by_cases hj':j<n
      ·have q0:=(hL.low.cell (p:=⟨gb,0,none⟩) hgl).trans HC0.out
       have hgw:gb<wr.heap.size:=Nat.lt_of_lt_of_le hgl hL.low.size
       have hLN:=LN.zero hL
       obtain⟨nb,hnb⟩:∃nb,nb=wr.heap.size:=⟨_,rfl⟩
       rw[←hnb]at hLN
       go_upto_region 23 with fail
       rw[←hnb]
       generalize wr.alloc (.cells (madeCells #[.bool false] n) 4)=W5 at hLN ⊢
       clear q0 hgw hL hnb
       have q2:=(hLN.s.low.cell (p:=⟨gb,2,none⟩) hgl).trans HC2.out
       go_wp2_with fail
       clear q2
       go_loopw [118] (fun t wi=>∃(i:Nat) (bl':List Bool),i≤n∧t=.int .i64 (i:Int)∧LN w n eb cb nb bl blc bl' wi∧Ei G l bl i bl') (fun t _=>n - (intOf t).toNat)
       case atStart=>exact⟨0,_,by omega,rfl,hLN,fun k x hk=>absurd hk (by omega)⟩
       case round =>
        clear hLN
        obtain⟨i,bl',hi,rfl,hN,hEi⟩:=hrel
        have HEI:=hide hEi
        clear hEi
        by_cases hi':i<n
        ·obtain⟨x,hx⟩:∃x,l[i]?=some x:=⟨l[i]'(by rw[HTL.out];exact hi'),List.getElem?_eq_getElem _⟩
         have ex:=(hN.s.low.cell (p:=⟨ge,i,none⟩) hge).trans (hecell i (.pointer (some ⟨x.id,0,none⟩)) (by simp[ptrC,hx]))
         have HX:=hide hx
         have HGTn:=hide (HT.out.below hN.s.low)
         clear hx
         go_wp2_with (go_at_call 55;refine(ends_all x N0 gb _ bl _ _ _ HGTn.out.gm (row_bools hN.s.e hN.s.lb (by omega)) (by rw[HNL.out,hN.s.lb]) (HGTn.out.xs i x HX.out) (HNM.out x (List.mem_of_getElem? HX.out))).mono ?_;rintro e w5 ⟨rfl,hb5⟩;have hN5:=hN.below hb5;have y0:=hN5.x.cell hi';have y1:=hN5.x.frozen i;have y2:=hN5.x.lt)
         exact⟨⟨i+1,_,by omega,by go_num,hN5.set i _,HEI.out.step HX.out (by rw[hN.ln];exact hi')⟩,by simp[intOf];omega⟩
        ·have hL6:=hN.out
         have HEN:=hide (HEJ.out.next HT.out.tr HND.out HEI.out (by rw[HGL.out];omega) (by rw[HGL.out];exact hN.ln))
         have HGT6:=hide (HT.out.below hL6.low)
         clear hN
         have hpos:=HPOS.out
         go_wp2_with (go_at_call 54;refine(all_x N0 gb G l _ HGT6.out).mono ?_;rintro e w6 ⟨vall,rfl,hown,hb6⟩;rw[HIDS.out]at hown;obtain⟨ga2,capa2,rfl,hga2,hgal2,hcs2⟩:=own_some hown hpos)
         have hc6:∀j u,(ptrC ((PredP.allX 0 l).map fun q=>q.2.1.id))[j]?=some u→w6.cell? ⟨ga2,j,none⟩=some u:=fun j u hu=>by
          have:=hcs2 j u hu
          have hadd:(⟨ga2,0,none⟩:Addr).add j=⟨ga2,j,none⟩:=by unfold Addr.add;split<;>simp_all
          rwa[hadd]at this
         have hL7:=hL6.below hb6
         have hcg:cb<ga2:=Nat.lt_of_lt_of_le hL6.c.lt hga2
         clear hcs2 hown hpos hL6 hb6 HGT6
         have hnq2:=HNQ.out
         rw[hnq2]
         clear hnq2
         go_loopw [135] (fun t wi=>∃(i:Nat) (blc':List Bool),i≤nq∧t=.int .i64 (i:Int)∧LS w n nb cb bl' blc' wi∧Cj G (PredP.allX 0 l) j i blc'∧(∀j u,(ptrC ((PredP.allX 0 l).map fun q=>q.2.1.id))[j]?=some u→wi.cell? ⟨ga2,j,none⟩=some u)∧ga2<wi.heap.size) (fun t _=>nq - (intOf t).toNat)
         case atStart=>exact⟨0,_,by omega,rfl,hL7,HCJ.out,hc6,hgal2⟩
         case round =>
          clear hL7 hc6
          obtain⟨i2,blc',hi2,rfl,hL,hCj,hcl,hgl2⟩:=hrel
          have HCJ2:=hide hCj
          have HCL2:=hide hcl
          clear hCj hcl
          by_cases hi2':i2<nq
          ·obtain⟨q,hq⟩:∃q,(PredP.allX 0 l)[i2]?=some q:=⟨(PredP.allX 0 l)[i2]'(by rw[HNQ.out];exact hi2'),List.getElem?_eq_getElem _⟩
           obtain⟨kq,x,cx⟩:=q
           have x0:=HCL2.out i2 (.pointer (some ⟨x.id,0,none⟩)) (by simp[ptrC,hq])
           have HGT8:=hide (HT.out.below hL.low)
           obtain⟨⟨up,hxx⟩,hkq⟩:=HGT8.out.part (List.mem_of_getElem? hq)
           simp only at hxx hkq
           have hkn:kq<n:=by rw[←HNL.out];exact hkq
           have HMEM:Hid (x.op=.name→x.s∈PredP.names G):=hide (fun ho=>PredP.item_mem HT.out.tr HNE.out (kq,x,cx) (List.mem_filter.2 ⟨List.mem_of_getElem? hq,by simp[ho]⟩))
           obtain⟨xi,xo,xp,xs,xb,xl⟩:=x
           simp only[PredP.X.id]at x0
           unfold xAt at hxx
           obtain⟨_,_,L,B,U0,kk0,id0,hblk,_,_,htie,_⟩:=hxx
           obtain⟨_,rfl⟩:=htie _ rfl
           have e0:wr.cell? ⟨xi,0,none⟩=some (.string (opB xo)):=by simp only[World.cell?,hblk];rfl
           obtain⟨cs,hcs,e2⟩:=str_cell (show wr.cell? ⟨xi,2,none⟩=some (vS xs) by simp only[World.cell?,hblk];rfl)
           have e6:wr.cell? ⟨xi,6,none⟩=some (.int .i64 (kq:Int)):=by simp only[World.cell?,hblk];rfl
           have HCS:=hide hcs
           have HQ:=hide hq
           have hgd:=kOf_at HND.out (by rw[HNL.out,hL.lc]) hkq
           have HKQ:=hide hkq
           have y0:=hL.c.cell hkn
           rw[List.getD_eq_getElem?_getD,hgd]at y0
           simp only[Option.getD_some]at y0
           obtain⟨bv,hbv⟩:∃bv,bv=kOf (PredP.names G) blc' ((PredP.names G).getD kq []):=⟨_,rfl⟩
           rw[←hbv]at y0
           have HBV:=hide hbv
           clear hq hblk hcs htie hkq hgd hbv
           by_cases hop:xo=.name
           ·subst hop
            simp only[opB]at e0
            cases bv with
            | false =>
             go_wp2_with fail
             exact⟨⟨i2+1,blc',by omega,by go_num,hL,HCJ2.out.step HT.out.tr HNE.out HQ.out rfl (fun _ h=>h) (fun h=>by rw[←HBV.out]at h;cases h) (fun _ h=>.inl h),HCL2.out,hgl2⟩,by simp[intOf];omega⟩
            | true =>
             obtain⟨kk,hr,hkk,_⟩:=ruleIx_some (HMEM.out rfl)
             have HRI:Hid (ruleIx (PredP.names G) (bs cs)=(kk:Int)):=hide (by rw[HCS.out];exact hr)
             have hkkn:kk<n:=by rw[←HNL.out];exact(List.getElem?_eq_some_iff.1 hkk).1
             have HKK:=hide hkk
             have y3:=hL.c.cell hkkn
             have y4:=hL.c.frozen kk
             have y5:=hL.c.lt
             clear hr hkk
             go_wp2_with (go_at_call 11;refine(rule_x N0 gb _ _ HGT8.out.gm cs).mono ?_;rintro e w5 ⟨rfl,rfl⟩;rw[HRI.out])
             obtain⟨s1,s2⟩:=kOf_set (PredP.names G) blc' kk _ true HND.out (by rw[HNL.out,hL.lc]) HKK.out
             refine⟨⟨i2+1,_,by omega,by go_num,hL.setC kk true,HCJ2.out.step HT.out.tr HNE.out HQ.out rfl (fun m h=>?_) (fun _=>s2) (fun m h=>?_),fun j u hu=>(World.cell?_setCell_other _ _ _ _ (fun e=>by injection e with e1;omega)).trans (HCL2.out j u hu),by simpa[World.setCell] using hgl2⟩,by simp[intOf];omega⟩
             ·by_cases em:m=xs
              ·subst em;exact s2
              ·rw[s1 m em];exact h
             ·by_cases em:m=xs
              ·exact .inr ⟨em,HBV.out.symm⟩
              ·left;rw[s1 m em]at h;exact h
           ·have hN2:=HCJ2.out.skip HQ.out hop
            have hcl:=HCL2.out
            have HF2:=hide (⟨hN2,hcl⟩:_∧_)
            clear hN2 hcl
            cases xo with
            | name=>exact absurd rfl hop
            | word | row | bar | opt | loop =>
             simp only[opB]at e0
             go_wp2_with fail
             exact⟨⟨i2+1,blc',by omega,by go_num,hL,HF2.out.1,HF2.out.2,hgl2⟩,by simp[intOf];omega⟩
          ·go_wp2_with fail
           exact⟨⟨j+1,nb,bl',blc',by omega,by go_num,rfl,hL,HEN.out,HCJ2.out.next HT.out.tr HNE.out (by rw[HNQ.out];omega)⟩,by simp[intOf];omega⟩
      ·have hjn:j=n:=by omega
       subst hjn
       have hG:=HGL.out
       rw[←hG]at HEJ HCJ
       have HEE:=hide (fun m=>HEJ.out.end' m)
       have HCE:=hide (fun m=>HCJ.out.end' m)
       clear hG HEJ HCJ
       have hGn:=HGL.out
       obtain⟨wq,rfl⟩:∃wq,wr=wq:=⟨_,rfl⟩
       have q0:=(hL.low.cell (p:=⟨gb,0,none⟩) hgl).trans HC0.out
       have q1:=(hL.low.cell (p:=⟨gb,1,none⟩) hgl).trans HC1.out
       obtain⟨fr,hres⟩:=hL.res
       have k0:=hres.cell (i:=0) (by omega)
       have k1:=hres.cell (i:=1) (by omega)
       have k2:=hres.cell (i:=2) (by omega)
       have z0:=hres.frozen 0
       have z1:=hres.frozen 1
       have z2:=hres.frozen 2
       have hlt:=hres.lt
       have HGN:=hide hGn
       clear hGn
       go_wp2_with fail
       go_loopw [168] (fun t wi=>wi=wr∧∃k:Nat,k≤j∧t=.int .i64 (k:Int)∧Us G k) (fun t _=>j - (intOf t).toNat)
       case atStart=>exact⟨rfl,0,by omega,rfl,Us.zero G⟩
       case round =>
        obtain⟨rfl,k,hk,rfl,hUs⟩:=hrel
        by_cases hk':k<j
        ·obtain⟨r,hr⟩:∃r,G[k]?=some r:=⟨G[k]'(by rw[HGN.out];exact hk'),List.getElem?_eq_getElem _⟩
         have hnk:(PredP.names G)[k]?=some r.name:=by simp[PredP.names,hr]
         obtain⟨c,hcx,n0⟩:=str_cell (HNCE.out k _ (strC_get hnk))
         have m0:=(hL.low.cell (p:=⟨gn,k,none⟩) hgn).trans n0
         have m1:=(hL.low.cell (p:=⟨gA,k,none⟩) hgA).trans (HACE.out k (.int .i64 (r.pos:Int)) (by simp[intC,hr]))
         have hkl:k<(PredP.names G).length:=by rw[HNL.out];exact hk'
         have hgd:(PredP.names G).getD k []=r.name:=by rw[List.getD_eq_getElem?_getD,hnk];rfl
         have y0:=hL.e.cell hk'
         have y1:=hL.c.cell hk'
         rw[List.getD_eq_getElem?_getD,kOf_at HND.out (by rw[HNL.out,hL.lb]) hkl,hgd,HEE.out]at y0
         rw[List.getD_eq_getElem?_getD,kOf_at HND.out (by rw[HNL.out,hL.lc]) hkl,hgd,HCE.out]at y1
         simp only[Option.getD_some]at y0 y1
         obtain⟨be,hbe⟩:∃be,be=(PredP.ends G).contains r.name:=⟨_,rfl⟩
         obtain⟨bc,hbc⟩:∃bc,bc=(PredP.come G).contains r.name:=⟨_,rfl⟩
         rw[←hbe]at y0
         rw[←hbc]at y1
         have HB:Hid (((PredP.ends G).contains r.name&&(PredP.come G).contains r.name)=(be&&bc)):=hide (by rw[hbe,hbc])
         have HR:=hide hr
         have HCX:=hide hcx
         have HUS:=hide hUs
         clear hbe hbc hr hnk hcx n0 hkl hgd hUs
         cases be with
         | false =>
          have HCK:=hide (chk_useless HG0.out HG12.out HTE.out HNE.out (HUS.out.found HR.out (by rw[HB.out];rfl)))
          go_wp2_with fail
          exact bodyPost_ret (v:=fltV 8 r.pos c) (by simp[results,Tryz.results35,go_sem,k0,k1,k2]) rfl ⟨8,r.pos,c,rfl,by rw[HCK.out];rfl,by rw[HCK.out];rfl,by rw[HCK.out];exact HCX.out,But.of_below (((hL.low.setCell (by simp) _).setCell (by simp) _).setCell (by simp) _),(fun k _=>(((hL.low.setCell (by simp) _).setCell (by simp) _).setCell (by simp) _).cell (p:=⟨gb,k,none⟩) hgl),fun G' h=>by rw[HCK.out]at h;cases h⟩
         | true =>
          cases bc with
          | false =>
           have HCK:=hide (chk_useless HG0.out HG12.out HTE.out HNE.out (HUS.out.found HR.out (by rw[HB.out];rfl)))
           go_wp2_with fail
           exact bodyPost_ret (v:=fltV 8 r.pos c) (by simp[results,Tryz.results35,go_sem,k0,k1,k2]) rfl ⟨8,r.pos,c,rfl,by rw[HCK.out];rfl,by rw[HCK.out];rfl,by rw[HCK.out];exact HCX.out,But.of_below (((hL.low.setCell (by simp) _).setCell (by simp) _).setCell (by simp) _),(fun k _=>(((hL.low.setCell (by simp) _).setCell (by simp) _).setCell (by simp) _).cell (p:=⟨gb,k,none⟩) hgl),fun G' h=>by rw[HCK.out]at h;cases h⟩
          | true =>
           go_wp2_with fail
           exact⟨⟨trivial,k+1,by omega,by go_num,HUS.out.next HR.out (by rw[HB.out];rfl)⟩,by simp[intOf];omega⟩
        ·have HUE:=hide (hUs.end' (by rw[HGN.out];omega))
         clear hUs k0 k1 k2 z0 z1 z2 q0 q1
         have HGT9:=hide (HT.out.below hL.low)
         have HR9:=hide (HROW.out.of_block (hL.low.block gb hgl))
         have HRES:=hide hres
         have HLOW:=hide hL.low
         clear hL hres
         go_upto_region 43 with (go_at_call 56;refine(begin_x N0 gb U G l _ HGT9.out HR9.out HND.out HG12.out HNM.out HWD.out hU).mono ?_;rintro e w2 ⟨rfl,bl2,vf,fl,hBeg⟩)
         have HT2:=hide (hBeg.1.gt HGT9.out)
         have HBEG:=hide hBeg
         have HRES2:=hide (HRES.out.of_block (hBeg.1.but.block _ HRES.out.lt (by omega)))
         clear hBeg
         go_upto_region 44 with (go_at_call 57;refine(behind_x N0 gb U G l _ _ _ bl2 vf fl HT2.out HBEG.out HND.out (by rw[HGN.out];omega) HNE.out (fun q hq=>⟨(HT2.out.ctx HNE.out HWD.out q hq).1,(HT2.out.ctx HNE.out HWD.out q hq).2.1⟩) hU hU0).mono ?_;rintro e w3 ⟨rfl,va,al,hGA,hUa,ha⟩)
         have HT3:=hide (HT2.out.but hGA.but (.inr rfl) (fun k hk=>hGA.c04 k (by omega)))
         have HAE3:=hide (hGA.ae HBEG.out.1 HT2.out HBEG.out.2.1 hU hUa)
         have HRES3:=hide (HRES2.out.of_block (hGA.but.block _ HRES2.out.lt (by omega)))
         have HGA:=hide hGA
         have HUA:=hide hUa
         have HHA:=hide ha
         clear hGA hUa ha
         go_wp2_with (go_at_call 58;refine(clash_x N0 gb U G l bl2 fl al _ HT3.out HAE3.out (HT3.out.ctx HNE.out HWD.out) (fun p=>(PredP.cnt_all _ _ _ _ p G l 0 lo HT.out.tr HP.out).1) HND.out).mono ?_;rintro e w4 ⟨best,⟨Wb,Ab,cbt,rfl,hfi,hb4⟩,hso⟩;have hres4:=HRES3.out.of_block (hb4.block _ HRES3.out.lt);have k0:=hres4.cell (i:=0) (by omega);have k1:=hres4.cell (i:=1) (by omega);have k2:=hres4.cell (i:=2) (by omega);have z0:=hres4.frozen 0;have z1:=hres4.frozen 1;have z2:=hres4.frozen 2;have hlt4:=hres4.lt)
         have e1:(fun u n=>hasOf (PredP.names G) fl u n)=fun u n=>(PredP.fsts G u).contains n:=funext fun u=>funext fun m=>HBEG.out.2.2.2 u m
         have e2:kOf (PredP.names G) bl2=(PredP.nul G).contains:=funext HBEG.out.2.2.1
         have e3:(fun n u=>hasOf (PredP.names G) al u n)=fun n u=>(PredP.afts G u).contains n:=funext fun n=>funext fun u=>HHA.out u n
         unfold plC at hso
         rw[e1,e2,e3]at hso
         have hbest:=PredP.clash_eq HT.out.tr HP.out hso
         have hbut:But gb w w4:=(((But.of_below HLOW.out).trans HBEG.out.1.but).trans HGA.out.but).trans (But.of_below hb4)
         have hoff:But w.heap.size w4 (((w4.setCell ⟨w.heap.size,0,none⟩ (.int .i64 (Wb:Int))).setCell ⟨w.heap.size,1,none⟩ (.int .i64 (Ab:Int))).setCell ⟨w.heap.size,2,none⟩ (.string cbt)):=(((But.refl _ w4).setCell (p:=⟨w.heap.size,0,none⟩) rfl _).setCell (p:=⟨w.heap.size,1,none⟩) rfl _).setCell (p:=⟨w.heap.size,2,none⟩) rfl _
         have hB4:=(HBEG.out.1.over HGA.out.but HGA.out.c04 HGA.out.row).below hb4
         have hFull:=sets_off hB4 (HGA.out.below hb4) hres4 hoff HRES.out.lt HRES2.out.lt (by omega) HT.out.gm.le HBEG.out.2.1 hU HUA.out HBEG.out.2.2.1 HBEG.out.2.2.2 HHA.out
         have hc3:∀k,k<3→w4.cell? ⟨gb,k,none⟩=w.cell? ⟨gb,k,none⟩:=fun k hk=>(hB4.c012 k hk).trans (HLOW.out.cell (p:=⟨gb,k,none⟩) hgl)
         have hbut5:But gb w (((w4.setCell ⟨w.heap.size,0,none⟩ (.int .i64 (Wb:Int))).setCell ⟨w.heap.size,1,none⟩ (.int .i64 (Ab:Int))).setCell ⟨w.heap.size,2,none⟩ (.string cbt)):=((hbut.setNew (by simp) _).setNew (by simp) _).setNew (by simp) _
         refine bodyPost_ret (v:=fltV Wb Ab cbt) (by simp[results,Tryz.results35,go_sem,k0,k1,k2]) rfl ⟨Wb,Ab,cbt,rfl,?_,?_,?_,hbut5,(fun k hk=>(hoff.cell (Nat.lt_of_lt_of_le hB4.gl hB4.but.size) (by omega)).trans (hc3 k hk)),fun _ _=>hFull⟩
         all_goals
          cases best with
          | none =>
           rw[chk_ok HG0.out HG12.out HTE.out HNE.out HUE.out hbest.symm]
           obtain⟨x1,x2,x3⟩:=hfi
           subst x1
           subst x2
           first | rfl | exact x3
          | some b =>
           obtain⟨bp,bs⟩:=b
           rw[chk_clash HG0.out HG12.out HTE.out HNE.out HUE.out hbest.symm]
           obtain⟨x1,x2,x3⟩:=hfi
           subst x1
           subst x2
           first | rfl | exact x3
end
section
open Go.RowKit
mutual
theorem wd_P {U:List Str}:∀(p:PredP.Part) (x:PredP.X),PredP.xP p x→(∀u,u∈PredP.wordsP p→u∈U)→wdX U x
 | .word s,x,h,hu=>by
  rw[PredP.xP]at h
  obtain⟨i,p,rfl⟩:=h
  unfold wdX wdXs
  exact⟨fun _=>hu s (by rw[PredP.wordsP];exact List.mem_singleton.2 rfl),trivial⟩
 | .name s p,x,h,hu=>by
  rw[PredP.xP]at h
  obtain⟨i,rfl⟩:=h
  unfold wdX wdXs
  exact⟨(fun h=>nomatch h),trivial⟩
 | .br .grp q e,x,h,hu=>by
  rw[PredP.xP]at h
  rw[PredP.wordsP]at hu
  exact wd_E e x h hu
 | .br .opt q e,x,h,hu=>by
  rw[PredP.xP]at h
  rw[PredP.wordsP]at hu
  obtain⟨i,y,rfl,hy⟩:=h
  unfold wdX wdXs wdXs
  exact⟨(fun h=>nomatch h),wd_E e y hy hu,trivial⟩
 | .br .loop q e,x,h,hu=>by
  rw[PredP.xP]at h
  rw[PredP.wordsP]at hu
  obtain⟨i,y,rfl,hy⟩:=h
  unfold wdX wdXs wdXs
  exact⟨(fun h=>nomatch h),wd_E e y hy hu,trivial⟩
theorem wd_R {U:List Str}:∀(ps:PredP.Parts) (l:PredP.Xs),PredP.xR ps l→(∀u,u∈PredP.wordsR ps→u∈U)→wdXs U l
 | .nil,l,h,hu=>by
  rw[PredP.xR]at h
  subst h
  unfold wdXs
  trivial
 | .cons p ps,l,h,hu=>by
  rw[PredP.xR]at h
  rw[PredP.wordsR]at hu
  obtain⟨x,l',rfl,hx,hl⟩:=h
  unfold wdXs
  exact⟨wd_P p x hx (fun u h=>hu u (List.mem_append_left _ h)),wd_R ps l' hl (fun u h=>hu u (List.mem_append_right _ h))⟩
theorem wd_E {U:List Str}:∀(e:PredP.Rows) (x:PredP.X),PredP.xE e x→(∀u,u∈PredP.wordsE e→u∈U)→wdX U x
 | .nil,x,h,hu=>by rw[PredP.xE]at h;exact h.elim
 | .cons _ r .nil,x,h,hu=>by
  rw[PredP.xE]at h
  rw[PredP.wordsE]at hu
  obtain⟨i,p,l,rfl,hl⟩:=h
  unfold wdX
  exact⟨(fun h=>nomatch h),wd_R r l hl (fun u h=>hu u (List.mem_append_left _ h))⟩
 | .cons _ r (.cons b r' e),x,h,hu=>by
  rw[PredP.xE]at h
  rw[PredP.wordsE]at hu
  obtain⟨i,p,y,l,rfl,⟨j,q,k,rfl,hk⟩,hl⟩:=h
  unfold wdX wdXs wdX
  exact⟨(fun h=>nomatch h),⟨(fun h=>nomatch h),wd_R r k hk (fun u h=>hu u (List.mem_append_left _ h))⟩,wd_Es (.cons b r' e) l hl (fun u h=>hu u (List.mem_append_right _ h))⟩
theorem wd_Es {U:List Str}:∀(e:PredP.Rows) (l:PredP.Xs),PredP.xEs e l→(∀u,u∈PredP.wordsE e→u∈U)→wdXs U l
 | .nil,l,h,hu=>by
  rw[PredP.xEs]at h
  subst h
  unfold wdXs
  trivial
 | .cons _ r e,l,h,hu=>by
  rw[PredP.xEs]at h
  rw[PredP.wordsE]at hu
  obtain⟨y,l',rfl,⟨j,q,k,rfl,hk⟩,hl⟩:=h
  unfold wdXs wdX
  exact⟨⟨(fun h=>nomatch h),wd_R r k hk (fun u h=>hu u (List.mem_append_left _ h))⟩,wd_Es e l' hl (fun u h=>hu u (List.mem_append_right _ h))⟩
end
theorem wd_all {G:List Rule} {l:List PredP.X} (ht:PredP.Trees G l):∀x,x∈l→wdX ([]::PredP.allWords G) x:=by
 intro x hx
 obtain⟨i,hi⟩:=List.getElem?_of_mem hx
 have hk:i<G.length:=by rw[←ht.length];exact(List.getElem?_eq_some_iff.1 hi).1
 exact wd_E _ x (ht.at (List.getElem?_eq_getElem hk) hi) (fun u hu=>List.mem_cons_of_mem _ (PredP.mem_allWords (List.getElem_mem hk) hu))
structure TL (okN okA:Nat→Prop) (w:World) (l:List PredP.X) (i:Nat) (wr:World):Prop where
 touch:Touch (l.flatMap PredP.X.all) w wr
 done:∀k x,k<i→l[k]?=some x→xAt okN okA wr (some (none,k)) x
 todo:∀k x,i≤k→l[k]?=some x→xAt okN okA wr none x
theorem TL.zero {okN okA:Nat→Prop} {w:World} {l:List PredP.X} (h:∀x,x∈l→xAt okN okA w none x):TL okN okA w l 0 w :=
 ⟨Touch.refl _ _,fun k x hk=>absurd hk (by omega),fun k x _ hx=>h x (List.mem_of_getElem? hx)⟩
theorem TL.noExp {okN okA:Nat→Prop} {w:World} {l:List PredP.X} {i:Nat} {wr:World} (h:TL okN okA w l i wr) (hA:∀b,okA b→noExp w b) (hE:∀b,b∈l.flatMap PredP.X.all→∃cs f,w.heap[b]?=some (.cells cs 132 f)):∀b,okA b→noExp wr b:=by
 intro b hb cs f e
 rw[h.touch.block b (fun hm=>by
  obtain⟨cs',f',he⟩:=hE b hm
  exact hA b hb cs' f' he)]at e
 exact hA b hb cs f e
theorem TL.step {okN okA:Nat→Prop} {w:World} {l:List PredP.X} {j:Nat} {wr w2:World} (h:TL okN okA w l j wr) (hnd:(l.flatMap PredP.X.all).Nodup) (hA:∀b,okA b→Go.Proofs.YtpcmemcanpgadaaGreatDoor.noExp w b) (hE:∀b,b∈l.flatMap PredP.X.all→∃cs f,w.heap[b]?=some (.cells cs 132 f)) {y:PredP.X} (hy:l[j]?=some y)
  (ht:Touch y.all wr w2) (hx:xAt okN okA w2 (some (none,j)) y):TL okN okA w l (j+1) w2:=by
 have hmem:y∈l:=List.mem_of_getElem? hy
 have hsub:∀b,b∈y.all→b∈l.flatMap PredP.X.all:=fun b hb=>List.mem_flatMap.2 ⟨y,hmem,hb⟩
 have hkeep:∀b,okA b→b<wr.heap.size→w2.heap[b]?=wr.heap[b]?:=fun b hb _=>ht.block b (fun e=>by
  obtain⟨cs,f,he⟩:=hE b (hsub b e)
  exact hA b hb cs f he)
 have hap:∀q z,q≠j→l[q]?=some z→∀b,b∈z.all→w2.heap[b]?=wr.heap[b]?:=fun q z hq hz b hb=>ht.block b (flat_apart l hnd q j z y hz hy hq b hb)
 refine⟨h.touch.trans ht hsub,?_,?_⟩
 ·intro q z hq hz
  by_cases e:q=j
  ·subst e
   rw[hy]at hz
   cases hz
   exact hx
  ·exact xAt.stay (Nat.le_of_eq ht.size.symm) hkeep z _ (hap q z e hz) (h.done q z (by omega) hz)
 ·intro q z hq hz
  exact xAt.stay (Nat.le_of_eq ht.size.symm) hkeep z _ (hap q z (by omega) hz) (h.todo q z (by omega) hz)
end
section
open Go.RowKit
theorem own_sl {N n:Nat} {e:TypeId} {v:Value} {xs:List Value} {w W:World} {ok:Nat→Prop} (h:w.ownsRow N e 1 v n xs) (hn:n≤401) (hs:w.heap.size≤W.heap.size) (hb:∀b,v.ownBlock=some b→b<w.heap.size→ok b∧W.heap[b]?=w.heap[b]?):slAt ok W 1 v xs:=by
 have h1:=h.1
 rcases h.2 with ⟨rfl,h0⟩ | ⟨g,cap,cur,rfl,hb',hg,hc,_⟩
 ·left
  refine⟨rfl,List.eq_nil_of_length_eq_zero ?_⟩
  rw[h1,h0]
 ·right
  have hl:=(Array.getElem?_eq_some_iff.1 hg).1
  obtain⟨q1,q2⟩:=hb g rfl hl
  refine⟨g,n,cap,rfl,Nat.le_min.2 ⟨hc,by unfold maxLen;omega⟩,q1,by omega,h1,fun j u hu=>?_⟩
  have:=h.cells (g:=g) rfl j u hu
  have hadd:(⟨g,0,none⟩:Addr).add j=⟨g,j,none⟩:=by unfold Addr.add;split<;>simp_all
  rw[hadd]at this
  exact(World.cell?_of_block (w:=w) (a:=⟨g,j,none⟩) q2).trans this
theorem GT.made {N r g cap:Nat} {s:ByteArray} {w:World} {gb:Nat} {w2:World} {k:Nat} {t:PredP.Tok} {names:List Str} {ats ids:List Nat} {vN vA vE:Value} {o:PredP.Out (List Rule)} {m:Nat} {acc:List Rule} {l:List PredP.X} (hX:XG N r g cap s w gb w2 0 0 k t names ats ids vN vA vE) (hG:XGG N s o w2 t k names ats ids vN vA vE m acc l) (hgw:XGw N r g w gb)
  {wt:World} (hTL:TL (trN N [vN,vA,vE]) (trA N [vN,vA,vE] w2) w2 l l.length wt) {W:World} (hs:w2.heap.size≤W.heap.size) (hW:∀b,N≤b→b<w2.heap.size→W.heap[b]?=wt.heap[b]?) (hc:∀k,k<3→W.cell? ⟨gb,k,none⟩=w2.cell? ⟨gb,k,none⟩) (hcnt:(l.flatMap PredP.X.all).length≤100000) (hk:k≤401):GT w2.heap.size gb acc l W:=by
 have hgN:=hgw.gbN
 have hgl:gb<w2.heap.size:=(Array.getElem?_eq_some_iff.1 hX.gbk).1
 have hall:∀b,b∈l.flatMap PredP.X.all→trN N [vN,vA,vE] b:=fun b hb=>by
  obtain⟨x,hx,hb⟩:=List.mem_flatMap.1 hb
  exact(xAt.ids x none (hG.trees x hx) b hb).1
 have hsh:=hG.short
 have hl:=hG.rel.length
 have hown:∀v,v∈[vN,vA,vE]→∀b,v.ownBlock=some b→N≤b→b<w2.heap.size→okG w2.heap.size gb b∧W.heap[b]?=w2.heap[b]?:=fun v hv b hb hNb hlb =>
  ⟨⟨hlb,by omega⟩,(hW b hNb hlb).trans (hTL.touch.block b (fun hm=>(hall b hm).2 v hv hb.symm))⟩
 have hcell:∀k u,(#[vN,vA,vE,.slice none 0 0,.slice none 0 0,.slice none 0 0,.int .i64 0]:Array Value)[k]?=some u→w2.cell? ⟨gb,k,none⟩=some u:=fun k u hu=>by
  simp only[World.cell?,hX.gbk];exact hu
 refine⟨⟨by omega,hs,vN,(hc 0 (by omega)).trans (hcell 0 vN rfl),?_⟩,⟨vA,(hc 1 (by omega)).trans (hcell 1 vA rfl),?_⟩,⟨vE,(hc 2 (by omega)).trans (hcell 2 vE rfl),?_⟩,hG.rel,fun i x hx=>?_,hG.nd,hcnt⟩
 ·have h1:=own_sl (ok:=okG w2.heap.size gb) hX.ownN (by rw[hG.nm,List.length_map];omega) hs (fun b hb hl=>hown vN (by simp) b hb (hX.ownN.lt b hb).1 hl)
  rw[hG.nm]at h1
  exact h1
 ·have h1:=own_sl (ok:=okG w2.heap.size gb) hX.ownA (by rw[hG.at',List.length_map];omega) hs (fun b hb hl=>hown vA (by simp) b hb (hX.ownA.lt b hb).1 hl)
  rw[hG.at']at h1
  exact h1
 ·have h1:=own_sl (ok:=okG w2.heap.size gb) hX.ownE (by rw[hG.id',List.length_map];omega) hs (fun b hb hl=>hown vE (by simp) b hb (hX.ownE.lt b hb).1 hl)
  rw[hG.id']at h1
  exact h1
 ·have hsz:=hTL.touch.size
  refine xAt.carry (w:=wt) (by omega) ?_ ?_ x _ (hTL.done i x (List.getElem?_eq_some_iff.1 hx).1 hx)
  ·intro b hb hlb
   exact⟨⟨by omega,by have:=hb.1;omega⟩,hW b hb.1 (by omega)⟩
  ·intro b hb hlb
   exact⟨⟨by omega,by have:=hb.1.1;omega⟩,hW b hb.1.1 (by omega)⟩
end
end Go.Proofs.YtpcmemcanpgadaaGreatDoor
