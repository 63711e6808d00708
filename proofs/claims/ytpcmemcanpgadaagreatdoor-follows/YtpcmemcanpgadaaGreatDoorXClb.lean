import Derived.Test.YtpcmemcanpgadaaGreatDoorXSoonG
set_option maxHeartbeats 4000000
set_option maxRecDepth 100000
namespace Go.Proofs.YtpcmemcanpgadaaGreatDoor
open PredP (hide Str Rule bs)
open Go.RowKit
theorem all_ids:∀(k:Nat) (l:List PredP.X),(PredP.allX k l).map (fun q=>q.2.1.id)=l.flatMap PredP.X.all
 | _,[]=>rfl
 | k,x::l=>by
  rw[PredP.allX,List.map_append,all_ids (k+1) l,List.flatMap_cons,List.map_map]
  congr 1
  exact parts_ids x .top
theorem fOf_at {ns:List Str} {al:List (List Str)} (hnd:ns.Nodup) (hl:ns.length=al.length) {k:Nat} (hk:k<ns.length):fOf ns al (ns.getD k [])=al.getD k []:=by
 obtain⟨n,hn⟩:∃n,ns[k]?=some n:=⟨ns[k],List.getElem?_eq_getElem hk⟩
 have hnot:n∉ns.take k:=fun hm=>by
  obtain⟨j,hj⟩:=List.getElem?_of_mem hm
  have hjk:j<k:=by have:=(List.getElem?_eq_some_iff.1 hj).1;rw[List.length_take]at this;omega
  rw[List.getElem?_take_of_lt hjk]at hj
  have:=(List.getElem?_inj (by omega) hnd).1 (hj.trans hn.symm)
  omega
 have:=fOf_get ns al k hn hnot hl
 rw[List.getD_eq_getElem?_getD,hn,List.getD_eq_getElem?_getD,this];rfl
theorem aAt_eq {ns:List Str} {al:List (List Str)} (hnd:ns.Nodup) (hl:ns.length=al.length) {k:Nat} (hk:k<ns.length) (u:Str):aAt al k u=hasOf ns al u (ns.getD k []):=by
 unfold aAt hasOf;rw[fOf_at hnd hl hk]
theorem ctx_kid {N0 gb:Nat} {U ns:List Str} {w:World} {k:Nat} {c:PredP.Ctx} {pi:Nat} {po:PredP.XOp} {pp:Nat} {ps:Str} {pb:List Nat} {pl:PredP.Xs} (h:ctxAt N0 gb U ns w k (.mk pi po pp ps pb pl) c) (hnd:(PredP.X.mk pi po pp ps pb pl).all.Nodup) {n:Nat} {y:PredP.X} (hy:pl.list[n]?=some y):ctxAt N0 gb U ns w k y (.into (.mk pi po pp ps pb pl) n c):=by
 have hm:=List.mem_of_getElem? hy
 rw[PredP.X.all,List.nodup_cons]at hnd
 obtain⟨_,hnm,hwd⟩:=h.self
 unfold nmX at hnm
 unfold wdX at hwd
 have hk:=ctx_kids h
 unfold ctxAt
 exact⟨(xsAt_iff pl).1 hk y hm,(nmXs_iff pl).1 hnm.2 y hm,(wdXs_iff pl).1 hwd.2 y hm,hy,ids_nodup pl hnd.2,h⟩
structure ClR (ns:List Str) (bl:List Bool) (fl al:List (List Str)) (Q:List (Nat×PredP.X×PredP.Ctx)) (w:World) (ga:Nat) (ids:List Nat) (done:List PredP.Place) (W A:Nat) (c:ByteArray) (best:Option (Nat×Str)) (wr:World):Prop where
 cr:CRel w W A c wr
 is:FaultIs best W A c
 soon:PredP.Soon done best
 cells:∀j u,(ptrC ids)[j]?=some u→wr.cell? ⟨ga,j,none⟩=some u
 lt:ga<wr.heap.size
 ga':w.heap.size+2≤ga
theorem ClR.below {ns:List Str} {bl:List Bool} {fl al:List (List Str)} {Q:List (Nat×PredP.X×PredP.Ctx)} {w:World} {ga:Nat} {ids:List Nat} {done:List PredP.Place} {W A:Nat} {c:ByteArray} {best:Option (Nat×Str)} {wr w':World} (h:ClR ns bl fl al Q w ga ids done W A c best wr) (hb:Below wr.heap.size wr w'):ClR ns bl fl al Q w ga ids done W A c best w' :=
 ⟨h.cr.below hb,h.is,h.soon,fun j u hu=>(hb.cell (p:=⟨ga,j,none⟩) h.lt).trans (h.cells j u hu),Nat.lt_of_lt_of_le h.lt hb.size,h.ga'⟩
theorem ClR.set {ns:List Str} {bl:List Bool} {fl al:List (List Str)} {Q:List (Nat×PredP.X×PredP.Ctx)} {w:World} {ga:Nat} {ids:List Nat} {done done':List PredP.Place} {W A W' A':Nat} {c c':ByteArray} {best best':Option (Nat×Str)} {wr:World} (h:ClR ns bl fl al Q w ga ids done W A c best wr) (hi:FaultIs best' W' A' c') (hs:PredP.Soon done' best') :
  ClR ns bl fl al Q w ga ids done' W' A' c' best' (((wr.setCell ⟨w.heap.size+1,0,none⟩ (.int .i64 (W':Int))).setCell ⟨w.heap.size+1,1,none⟩ (.int .i64 (A':Int))).setCell ⟨w.heap.size+1,2,none⟩ (.string c')):=by
 have hb:=set_butc (w:=w) (wr:=wr) (.int .i64 (W':Int)) (.int .i64 (A':Int)) (.string c')
 have hga:=h.ga'
 exact⟨h.cr.set,hi,hs,fun j u hu=>(hb.cell h.lt (by omega)).trans (h.cells j u hu),Nat.lt_of_lt_of_le h.lt hb.size,h.ga'⟩
theorem tel_U {N0 gb:Nat} {U ns:List Str} {bl:List Bool} {fl al:List (List Str)} {w:World} (hE:AE N0 gb U ns bl fl al w) {k:Nat} {x:PredP.X} {c:PredP.Ctx} (hx:ctxAt N0 gb U ns w k x c) {u:Str} (h:PredP.telX u (hasOf ns fl u) (kOf ns bl) (aAt al k u) x c=true):u∈U:=by
 unfold PredP.telX at h
 rw[Bool.or_eq_true,Bool.and_eq_true]at h
 rcases h with h | h
 ·exact fstX_U (fun n hn=>hE.fe.ups.in' hn) x hx.self.2.2 h
 ·exact aftC_U (fun n hn=>hE.fe.ups.in' hn) (fun h=>hE.ups.at' h) c x hx h.2
theorem bar_nil (F:Str→Str→Bool) (k A:Str→Bool) (x:PredP.X) (c:PredP.Ctx) (ahead:Str→Bool) (n:Nat) (bars:List Nat):PredP.barPl F k A x c ahead n bars .nil=[]:=by
 cases bars<;>rw[PredP.barPl]<;>simp
def BRel (U ns:List Str) (bl:List Bool) (fl al:List (List Str)) (Q:List (Nat×PredP.X×PredP.Ctx)) (w:World) (ga:Nat) (ids:List Nat) (kq:Nat) (x:PredP.X) (xb:List Nat) (xl:PredP.Xs) (cx:PredP.Ctx) (L:List PredP.Place) (n:Nat) (v:Value) (wi:World):Prop :=
 ∃W A c best doneB Lh Ph,ClR ns bl fl al Q w ga ids (L++doneB) W A c best wi∧strs wi v Lh∧PredP.Tells Lh Ph∧(∀u,Ph u=true→u∈U)∧(n=0→doneB=[]∧Ph=fun _=>false) ∧
  (0<n→PredP.contrib (fun u n=>hasOf ns fl u n) (kOf ns bl) (fun u=>aAt al kq u) (x,cx)=doneB++PredP.barPl (fun u n=>hasOf ns fl u n) (kOf ns bl) (fun u=>aAt al kq u) x cx Ph n (xb.drop (n - 1)) (xl.drop n))
theorem BRel.zero {U ns:List Str} {bl:List Bool} {fl al:List (List Str)} {Q:List (Nat×PredP.X×PredP.Ctx)} {w:World} {ga:Nat} {ids:List Nat} {kq:Nat} {x:PredP.X} {xb:List Nat} {xl:PredP.Xs} {cx:PredP.Ctx} {L:List PredP.Place} {W A:Nat} {c:ByteArray} {best:Option (Nat×Str)} {wr:World} (h:ClR ns bl fl al Q w ga ids L W A c best wr):BRel U ns bl fl al Q w ga ids kq x xb xl cx L 0 (.slice none 0 0) wr :=
 ⟨W,A,c,best,[],[],fun _=>false,by rw[List.append_nil];exact h,.inl ⟨rfl,rfl⟩,PredP.Tells.nil,(fun u h=>by cases h),(fun _=>⟨rfl,rfl⟩),fun h=>absurd h (by omega)⟩
theorem clash_x (N0 gb:Nat) (U:List Str) (G:List Rule) (l:List PredP.X) (bl:List Bool) (fl al:List (List Str)) (w:World) (hT:GT N0 gb G l w) (hE:AE N0 gb U (PredP.names G) bl fl al w)
  (hctx:∀q,q∈PredP.allX 0 l→ctxAt N0 gb U (PredP.names G) w q.1 q.2.1 q.2.2∧q.1<(PredP.names G).length∧shX q.2.1∧q.2.1.all.Nodup) (hcnt:∀p,PredP.cnt p (plC (PredP.names G) bl fl al (PredP.allX 0 l))≤1) (hnd:(PredP.names G).Nodup) :
  Calls Tryz.prog 58 #[.pointer (some ⟨gb,0,none⟩)] w fun e w'=>∃best,SoonPost w best e w'∧PredP.Soon (plC (PredP.names G) bl fl al (PredP.allX 0 l)) best:=by
 obtain⟨ns,hns⟩:∃ns,ns=PredP.names G:=⟨_,rfl⟩
 rw[←hns]at hE hctx hcnt hnd ⊢
 obtain⟨Q,hQ⟩:∃Q,Q=PredP.allX 0 l:=⟨_,rfl⟩
 have hids:l.flatMap PredP.X.all=Q.map (fun q=>q.2.1.id):=by rw[hQ];exact(all_ids 0 l).symm
 rw[←hQ]at hctx hcnt ⊢
 have hcn:=hT.cnt
 rw[hids]at hcn
 have HT:=hide hT
 have HE:=hide hE
 have HX:=hide hctx
 have HCN:=hide hcnt
 have HAQ:=hide (fun(k:Nat) (hk:k<ns.length) (u:Str)=>aAt_eq (al:=al) hnd hE.la hk u)
 have HIDS:=hide hids
 clear hT hE hctx hcnt hnd hns hQ hids
 go_enter Tryz.func58,Tryz.ntmps58
 go_wp2_with fail
 have hcr0:=CRel.zero w
 generalize (w.alloc (.cells #[.int .i64 0,.int .i64 0,.string ⟨#[]⟩] 55)).alloc (.cells #[.int .i64 0,.int .i64 0,.string ⟨#[]⟩] 55)=W0 at hcr0 ⊢
 refine(all_x N0 gb G l _ (HT.out.below hcr0.low)).mono ?_
 rintro e w1 ⟨va,rfl,hown,hb1⟩
 rw[HIDS.out]at hown
 have hsz0:=hcr0.size
 by_cases hQ0:Q=[]
 ·subst hQ0
  have hv:va=.slice none 0 0∨∃g cap,va=.slice (some ⟨g,0,none⟩) 0 cap:=by
   rcases hown.2 with ⟨h,_⟩ | ⟨g,cap,_,h,_⟩
   ·exact .inl h
   ·exact .inr ⟨g,cap,h⟩
  have hr:=hcr0.below hb1
  obtain⟨r1,r2,r3,r4,r5,r6,⟨_,r7⟩,⟨_,r8⟩,⟨_,r9⟩,r10,_⟩:=id hr
  have hB:Below w.heap.size w (((w1.setCell ⟨w.heap.size,0,none⟩ (.int .i64 ((0:Nat):Int))).setCell ⟨w.heap.size,1,none⟩ (.int .i64 ((0:Nat):Int))).setCell ⟨w.heap.size,2,none⟩ (.string ⟨#[]⟩)):=((r1.setCell (by simp) _).setCell (by simp) _).setCell (by simp) _
  rcases hv with rfl | ⟨g,cap,rfl⟩
  all_goals
   go_wp2_with fail
   refine wp_loop_rounds 1 ?_
   rw[rounds_succ]
   go_wp2_with fail
   exact bodyPost_ret (v:=fltV 0 0 ⟨#[]⟩) (by simp[results,Tryz.results58,go_sem,r7,r8,r9]) rfl ⟨none,⟨0,0,⟨#[]⟩,rfl,⟨rfl,rfl,rfl⟩,hB⟩,fun p w=>rfl⟩
 ·have hpos:0<(Q.map fun q=>q.2.1.id).length:=by
   rw[List.length_map];exact List.length_pos_iff.2 hQ0
  obtain⟨ga,capa,rfl,hga,hgal,hcs⟩:=own_some hown hpos
  have hcells:∀j u,(ptrC (Q.map fun q=>q.2.1.id))[j]?=some u→w1.cell? ⟨ga,j,none⟩=some u:=fun j u hu=>by
   have:=hcs j u hu
   have hadd:(⟨ga,0,none⟩:Addr).add j=⟨ga,j,none⟩:=by unfold Addr.add;split<;>simp_all
   rwa[hadd]at this
  have hR0:ClR ns bl fl al Q w ga (Q.map fun q=>q.2.1.id) (plC ns bl fl al (Q.take 0)) 0 0 ⟨#[]⟩ none w1:=⟨hcr0.below hb1,⟨rfl,rfl,rfl⟩,fun p w=>rfl,hcells,hgal,by omega⟩
  clear hcs hcells hown hpos hQ0
  have hnq:(Q.map fun q=>q.2.1.id).length≤100000:=hcn
  clear hcn
  obtain⟨nq,hnqe⟩:∃nq,nq=(Q.map fun q=>q.2.1.id).length:=⟨_,rfl⟩
  have HNQ:Hid (Q.length=nq):=by show _=_;rw[hnqe,List.length_map]
  rw[←hnqe]at hnq ⊢
  clear hnqe
  go_wp2_with fail
  go_loopw [13] (fun t wr=>∃(j W A:Nat) (c:ByteArray) (best:Option (Nat×Str)),j≤nq∧t=.int .i64 (j:Int)∧ClR ns bl fl al Q w ga (Q.map fun q=>q.2.1.id) (plC ns bl fl al (Q.take j)) W A c best wr) (fun t _=>nq - (intOf t).toNat)
  case atStart=>exact⟨0,0,0,_,none,by omega,rfl,hR0⟩
  case round =>
   clear hR0
   obtain⟨j,W,A,c,best,hj,rfl,hR⟩:=hrel
   obtain⟨r1,r2,r3,r4,r5,r6,⟨_,r7⟩,⟨_,r8⟩,⟨_,r9⟩,r10,_⟩:=id hR.cr
   by_cases hj':j<nq
   ·obtain⟨q,hq⟩:∃q,Q[j]?=some q:=⟨Q[j]'(by rw[HNQ.out];exact hj'),List.getElem?_eq_getElem _⟩
    obtain⟨kq,x,cx⟩:=q
    have k0':wr.cell? ⟨ga,j,none⟩=some (.pointer (some ⟨x.id,0,none⟩)):=hR.cells j _ (by simp[ptrC,hq])
    have hgl:=hR.lt
    obtain⟨hcx,hkq,hsh,hxn⟩:=HX.out _ (List.mem_of_getElem? hq)
    simp only at hcx hkq hsh hxn
    have htk:Q.take (j+1)=Q.take j++[(kq,x,cx)]:=by rw[List.take_add_one,hq];rfl
    have hall:plC ns bl fl al Q=(plC ns bl fl al (Q.take j)++plC ns bl fl al [(kq,x,cx)])++plC ns bl fl al (Q.drop (j+1)):=by
     rw[←plC_append,←plC_append,←htk,List.take_append_drop]
    have hpl:plC ns bl fl al (Q.take (j+1))=plC ns bl fl al (Q.take j)++plC ns bl fl al [(kq,x,cx)]:=by rw[htk,plC_append]
    have h1:=plC_one ns bl fl al (kq,x,cx)
    simp only at h1
    have hAQ:(fun u=>hasOf ns al u (ns.getD kq []))=fun u=>aAt al kq u:=by funext u;exact(HAQ.out kq hkq u).symm
    rw[hAQ]at h1
    rw[h1]at hall hpl
    obtain⟨xi,xo,xp,xs,xb,xl⟩:=x
    simp only[PredP.X.id]at k0'
    have hcw:=ctxAt.below r1 cx _ hcx
    obtain⟨⟨tie,hxx⟩,_,_⟩:=hcw.self
    unfold xAt at hxx
    obtain⟨_,_,L,B,U0,k0,id0,hblk,hL,hB,_,_⟩:=hxx
    have e0:wr.cell? ⟨xi,0,none⟩=some (.string (opB xo)):=by simp only[World.cell?,hblk];rfl
    have e1:wr.cell? ⟨xi,1,none⟩=some (.int .i64 (xp:Int)):=by simp only[World.cell?,hblk];rfl
    have e3:wr.cell? ⟨xi,3,none⟩=some L:=by simp only[World.cell?,hblk];rfl
    have e4:wr.cell? ⟨xi,4,none⟩=some B:=by simp only[World.cell?,hblk];rfl
    have HALL:=hide hall
    have HPL:=hide hpl
    have HSL:=hide hL
    have HSB:=hide hB
    have HCX:=hide hcx
    have HKQ:=hide hkq
    have HXN:=hide hxn
    unfold shX at hsh
    have HSH:=hide hsh
    clear hall hpl hL hB hcx hkq hxn hsh h1 hAQ htk hq hblk hcw
    cases xo with
    | word =>
     simp only[opB]at e0
     go_wp2_with fail
     exact⟨⟨j+1,W,A,c,best,by omega,by go_num,by rw[HPL.out];simpa[PredP.contrib] using hR⟩,by simp[intOf];omega⟩
    | name =>
     simp only[opB]at e0
     go_wp2_with fail
     exact⟨⟨j+1,W,A,c,best,by omega,by go_num,by rw[HPL.out];simpa[PredP.contrib] using hR⟩,by simp[intOf];omega⟩
    | row =>
     simp only[opB]at e0
     go_wp2_with fail
     exact⟨⟨j+1,W,A,c,best,by omega,by go_num,by rw[HPL.out];simpa[PredP.contrib] using hR⟩,by simp[intOf];omega⟩
    | opt =>
     simp only[opB]at e0
     have hne:=HSH.out.1 (by simp)
     obtain⟨y,ys,rfl⟩:∃y ys,xl=.cons y ys:=by
      cases xl with
      | nil=>exact absurd rfl hne
      | cons y ys=>exact⟨y,ys,rfl⟩
     obtain⟨ak,nk,capk,rfl,hkm,_,hkl,hkc⟩:=HSL.out.gen
     unfold maxLen at hkm
     have hnk:0<nk:=by
      have:(ptrC (PredP.Xs.cons y ys).ids).length=nk:=by simpa using hkl
      rw[ptrC_length,PredP.Xs.ids,List.length_cons]at this
      omega
     rcases hkc with h0 | ⟨gk,rfl,_,hgk,hkcell⟩
     ·omega
     have ek:wr.cell? ⟨gk,0,none⟩=some (.pointer (some ⟨y.id,0,none⟩)):=hkcell 0 _ (by simp[ptrC,PredP.Xs.ids])
     have HKID:=hide (ctx_kid HCX.out HXN.out (n:=0) (y:=y) (by simp[PredP.Xs.list]))
     have hd:Below w.heap.size w wr.drew:=r1.drew
     have hRd:=hR.below (Below.refl _ wr).drew
     have ltx:=bltc e1
     have ltk:=bltc ek
     clear hne hkl hkcell
     go_wp2_with fail
     refine wp_region_T (S:=fun W'=>W'.cell? ⟨w.heap.size+1,0,none⟩=some (.int .i64 (W:Int))∧W'.cell? ⟨w.heap.size+1,1,none⟩=some (.int .i64 (A:Int))∧W'.cell? ⟨w.heap.size+1,2,none⟩=some (.string c)∧W'.cell? ⟨xi,1,none⟩=some (.int .i64 (xp:Int))∧W'.cell? ⟨xi,3,none⟩=some (.slice (some ⟨gk,0,none⟩) nk capk)∧W'.cell? ⟨gk,0,none⟩=some (.pointer (some ⟨y.id,0,none⟩))) (t:=17) (by kernel_rfl) ⟨r3,r4,r5,e1,e3,ek⟩ ?_
     intro hHeld
     refine tkT 0 ?o0o ?v0o ?i0o hHeld ?_
     case i0o=>(refine⟨?_,?_,Or.inl ⟨?_,?_⟩⟩;simp only[gc3];rfl;exact fun _ _ _ h=>h;rfl;rintro W ⟨q0,q1,q2,q3,q4,q5⟩;go_simp;(try with_reducible rfl))
     simp only[Act.put,pu3]
     refine tkT 1 ?o1o ?v1o ?i1o hHeld ?_
     case i1o=>(refine⟨?_,?_,Or.inl ⟨?_,?_⟩⟩;simp only[gc3];rfl;exact fun _ _ _ h=>h;rfl;rintro W ⟨q0,q1,q2,q3,q4,q5⟩;go_simp;(try with_reducible rfl))
     simp only[Act.put,pu3]
     refine tkT 2 ?o2o ?v2o ?i2o hHeld ?_
     case i2o=>(refine⟨?_,?_,Or.inl ⟨?_,?_⟩⟩;simp only[gc3];rfl;exact fun _ _ _ h=>h;rfl;rintro W ⟨q0,q1,q2,q3,q4,q5⟩;go_simp;(try with_reducible rfl))
     simp only[Act.put,pu3]
     refine tkT 3 ?o3o ?v3o ?i3o hHeld ?_
     case i3o=>(refine⟨?_,?_,Or.inl ⟨?_,?_⟩⟩;simp only[gc3];rfl;exact fun _ _ _ h=>h;rfl;rintro W ⟨q0,q1,q2,q3,q4,q5⟩;go_simp;(try with_reducible rfl))
     simp only[Act.put,pu3]
     refine tkT 4 ?o4o ?v4o ?i4o hHeld ?_
     case i4o=>(refine⟨?_,?_,Or.inl ⟨?_,?_⟩⟩;simp only[gc3];rfl;exact fun _ _ _ h=>h;rfl;rintro W ⟨q0,q1,q2,q3,q4,q5⟩;go_simp;(try with_reducible rfl))
     simp only[Act.put,pu3]
     refine tkT 5 ?o5o ?v5o ?i5o hHeld ?_
     case i5o=>(refine⟨?_,?_,Or.inl ⟨?_,?_⟩⟩;simp only[gc3];rfl;exact fun _ _ _ h=>h;rfl;rintro W ⟨q0,q1,q2,q3,q4,q5⟩;go_simp;(try with_reducible rfl))
     simp only[Act.put,pu3]
     refine tkT 6 ?o6o ?v6o ?i6o hHeld ?_
     case i6o=>(refine⟨?_,?_,Or.inl ⟨?_,?_⟩⟩;simp only[gc3];rfl;exact fun _ _ _ h=>h;rfl;rintro W ⟨q0,q1,q2,q3,q4,q5⟩;go_simp;(try with_reducible rfl))
     simp only[Act.put,pu3]
     refine tkT 7 ?o7o ?v7o ?i7o hHeld ?_
     case i7o=>(refine⟨?_,?_,Or.inl ⟨?_,?_⟩⟩;simp only[gc3];rfl;exact fun _ _ _ h=>h;rfl;rintro W ⟨q0,q1,q2,q3,q4,q5⟩;go_simp;(try with_reducible rfl))
     simp only[Act.put,pu3]
     refine tkT 8 ?o8o ?v8o ?i8o hHeld ?_
     case i8o=>(refine⟨?_,?_,Or.inl ⟨?_,?_⟩⟩;simp only[gc3];rfl;exact fun _ _ _ h=>h;rfl;rintro W ⟨q0,q1,q2,q3,q4,q5⟩;go_simp;(try with_reducible rfl))
     simp only[Act.put,pu3]
     refine tkT 9 ?o9o ?v9o ?i9o hHeld ?_
     case i9o=>(refine⟨?_,?_,Or.inl ⟨?_,?_⟩⟩;simp only[gc3];rfl;exact fun _ _ _ h=>h;rfl;rintro W ⟨q0,q1,q2,q3,q4,q5⟩;go_simp;(try with_reducible rfl))
     simp only[Act.put,pu3]
     refine tkT 10 ?o10o ?v10o ?i10o hHeld ?_
     case i10o=>(refine⟨?_,?_,Or.inl ⟨?_,?_⟩⟩;simp only[gc3];rfl;exact fun _ _ _ h=>h;rfl;rintro W ⟨q0,q1,q2,q3,q4,q5⟩;go_simp;(try with_reducible rfl))
     simp only[Act.put,pu3]
     refine tkT 11 ?o11o ?v11o ?i11o hHeld ?_
     case i11o=>(refine⟨?_,?_,Or.inl ⟨?_,?_⟩⟩;simp only[gc3];rfl;exact fun _ _ _ h=>h;rfl;rintro W ⟨q0,q1,q2,q3,q4,q5⟩;go_simp;(try with_reducible rfl))
     simp only[Act.put,pu3]
     refine tkT 13 ?o13o ?v13o ?i13o hHeld ?_
     case i13o=>(refine⟨?_,?_,Or.inl ⟨?_,?_⟩⟩;simp only[gc3];rfl;exact fun _ _ _ h=>h;rfl;rintro W ⟨q0,q1,q2,q3,q4,q5⟩;go_simp;(try with_reducible rfl))
     simp only[Act.put,pu3]
     refine tkT 14 ?o14o ?v14o ?i14o hHeld ?_
     case i14o=>(refine⟨?_,?_,Or.inl ⟨?_,?_⟩⟩;simp only[gc3];rfl;exact fun _ _ _ h=>h;rfl;rintro W ⟨q0,q1,q2,q3,q4,q5⟩;go_simp;(try with_reducible rfl))
     simp only[Act.put,pu3]
     refine wpAnyT_one (i:=12) (o:=?o12o) (by kernel_rfl) ?i12o (fun K hK=>?c12o)
     case i12o=>(simp only[gc3];rfl)
     go_simp
     go_at_call 87
     refine(tells_x y (.into (.mk xi .opt xp xs xb (.cons y ys)) 0 cx) N0 gb U ns bl fl al kq _ (HE.out.below hd) HKQ.out (ctxAt.below hd _ _ HKID.out)).mono ?_
     rintro e wT ⟨vT,LT,rfl,hsT,htT,hbT⟩
     have hRT:=hRd.below hbT
     have hT1:=(hbT.cell (p:=⟨xi,1,none⟩) ltx).trans e1
     have hT3:=(hbT.cell (p:=⟨xi,3,none⟩) ltx).trans e3
     have hTk:=(hbT.cell (p:=⟨gk,0,none⟩) ltk).trans ek
     obtain⟨u1,u2,u3,u4,u5,u6,_,_,_,_,_⟩:=id hRT.cr
     refine hK.out _ _ (fun _=>⟨u3,u4,u5,hT1,hT3,hTk⟩) ?_
     clear hK K
     try simp only[Act.put,pu3]
     refine wpAnyT_one (i:=15) (o:=?o15o) (by kernel_rfl) ?i15o (fun K hK=>?c15o)
     case i15o=>(simp only[gc3];rfl)
     go_simp
     go_at_call 85
     refine(after_all cx (.mk xi .opt xp xs xb (.cons y ys)) N0 gb U ns bl fl al kq _ (HE.out.below hRT.cr.low) HKQ.out (ctxAt.below hRT.cr.low _ _ HCX.out)).mono ?_
     rintro e wA ⟨vA,LA,rfl,hsA,htA,hbA⟩
     have hRA:=hRT.below hbA
     have hZ1:=(hbA.cell (p:=⟨xi,1,none⟩) (bltc hT1)).trans hT1
     have hZ3:=(hbA.cell (p:=⟨xi,3,none⟩) (bltc hT3)).trans hT3
     have hZk:=(hbA.cell (p:=⟨gk,0,none⟩) (bltc hTk)).trans hTk
     obtain⟨v1,v2,v3,v4,v5,v6,_,_,_,_⟩:=id hRA.cr
     refine hK.out _ _ (fun _=>⟨v3,v4,v5,hZ1,hZ3,hZk⟩) ?_
     clear hK K
     try simp only[Act.put,pu3]
     refine wpAnyT_one (i:=16) (o:=?o16o) (by kernel_rfl) ?i16o (fun K hK=>?c16o)
     case i16o=>(simp only[gc3];rfl)
     go_simp
     go_at_call 86
     refine(sooner_x _ best W A c hR.is xp _ _ LT LA (hsT.below hbA) hsA).mono ?_
     rintro e wS ⟨W2,A2,c2,rfl,hi2,hbS⟩
     have hRS:=ClR.below hRA hbS
     have hS1:=(hbS.cell (p:=⟨xi,1,none⟩) (bltc hZ1)).trans hZ1
     have hS3:=(hbS.cell (p:=⟨xi,3,none⟩) (bltc hZ3)).trans hZ3
     have hSk:=(hbS.cell (p:=⟨gk,0,none⟩) (bltc hZk)).trans hZk
     obtain⟨s1,s2,s3,s4,s5,s6,_,_,_,_⟩:=id hRS.cr
     refine hK.out _ _ (fun _=>⟨s3,s4,s5,hS1,hS3,hSk⟩) ?_
     clear hK K
     try simp only[Act.put,pu3]
     refine wpAnyT_one (i:=17) (o:=?o17o) (by kernel_rfl) ?i17o (fun K hK=>?c17o)
     case i17o=>(simp only[gc3];rfl)
     go_simp
     refine hK.out _ _ (fun h=>absurd rfl h) ?_
     clear hK K
     try simp only[Act.put,pu3]
     refine wpAnyT_done (by kernel_rfl) ?_ _
     go_wp2_with fail
     have hSo:=soon_place (P:=fun u=>PredP.telX u (hasOf ns fl u) (kOf ns bl) (aAt al kq u) y (.into (.mk xi .opt xp xs xb (.cons y ys)) 0 cx)&&PredP.aftC u (hasOf ns fl u) (kOf ns bl) (aAt al kq u) (.mk xi .opt xp xs xb (.cons y ys)) cx) hR.soon (by rw[HALL.out,PredP.contrib,List.append_assoc];rfl) HCN.out htT htA (fun _=>rfl)
     exact⟨⟨j+1,W2,A2,c2,_,by omega,by go_num,by rw[HPL.out,PredP.contrib];exact hRS.set hi2 hSo⟩,by simp[intOf];omega⟩
    | loop =>
     simp only[opB]at e0
     have hne:=HSH.out.1 (by simp)
     obtain⟨y,ys,rfl⟩:∃y ys,xl=.cons y ys:=by
      cases xl with
      | nil=>exact absurd rfl hne
      | cons y ys=>exact⟨y,ys,rfl⟩
     obtain⟨ak,nk,capk,rfl,hkm,_,hkl,hkc⟩:=HSL.out.gen
     unfold maxLen at hkm
     have hnk:0<nk:=by
      have:(ptrC (PredP.Xs.cons y ys).ids).length=nk:=by simpa using hkl
      rw[ptrC_length,PredP.Xs.ids,List.length_cons]at this
      omega
     rcases hkc with h0 | ⟨gk,rfl,_,hgk,hkcell⟩
     ·omega
     have ek:wr.cell? ⟨gk,0,none⟩=some (.pointer (some ⟨y.id,0,none⟩)):=hkcell 0 _ (by simp[ptrC,PredP.Xs.ids])
     have HKID:=hide (ctx_kid HCX.out HXN.out (n:=0) (y:=y) (by simp[PredP.Xs.list]))
     have hd:Below w.heap.size w wr.drew:=r1.drew
     have hRd:=hR.below (Below.refl _ wr).drew
     have ltx:=bltc e1
     have ltk:=bltc ek
     clear hne hkl hkcell
     go_wp2_with fail
     refine wp_region_T (S:=fun W'=>W'.cell? ⟨w.heap.size+1,0,none⟩=some (.int .i64 (W:Int))∧W'.cell? ⟨w.heap.size+1,1,none⟩=some (.int .i64 (A:Int))∧W'.cell? ⟨w.heap.size+1,2,none⟩=some (.string c)∧W'.cell? ⟨xi,1,none⟩=some (.int .i64 (xp:Int))∧W'.cell? ⟨xi,3,none⟩=some (.slice (some ⟨gk,0,none⟩) nk capk)∧W'.cell? ⟨gk,0,none⟩=some (.pointer (some ⟨y.id,0,none⟩))) (t:=17) (by kernel_rfl) ⟨r3,r4,r5,e1,e3,ek⟩ ?_
     intro hHeld
     refine tkT 0 ?o0l ?v0l ?i0l hHeld ?_
     case i0l=>(refine⟨?_,?_,Or.inl ⟨?_,?_⟩⟩;simp only[gc3];rfl;exact fun _ _ _ h=>h;rfl;rintro W ⟨q0,q1,q2,q3,q4,q5⟩;go_simp;(try with_reducible rfl))
     simp only[Act.put,pu3]
     refine tkT 1 ?o1l ?v1l ?i1l hHeld ?_
     case i1l=>(refine⟨?_,?_,Or.inl ⟨?_,?_⟩⟩;simp only[gc3];rfl;exact fun _ _ _ h=>h;rfl;rintro W ⟨q0,q1,q2,q3,q4,q5⟩;go_simp;(try with_reducible rfl))
     simp only[Act.put,pu3]
     refine tkT 2 ?o2l ?v2l ?i2l hHeld ?_
     case i2l=>(refine⟨?_,?_,Or.inl ⟨?_,?_⟩⟩;simp only[gc3];rfl;exact fun _ _ _ h=>h;rfl;rintro W ⟨q0,q1,q2,q3,q4,q5⟩;go_simp;(try with_reducible rfl))
     simp only[Act.put,pu3]
     refine tkT 3 ?o3l ?v3l ?i3l hHeld ?_
     case i3l=>(refine⟨?_,?_,Or.inl ⟨?_,?_⟩⟩;simp only[gc3];rfl;exact fun _ _ _ h=>h;rfl;rintro W ⟨q0,q1,q2,q3,q4,q5⟩;go_simp;(try with_reducible rfl))
     simp only[Act.put,pu3]
     refine tkT 4 ?o4l ?v4l ?i4l hHeld ?_
     case i4l=>(refine⟨?_,?_,Or.inl ⟨?_,?_⟩⟩;simp only[gc3];rfl;exact fun _ _ _ h=>h;rfl;rintro W ⟨q0,q1,q2,q3,q4,q5⟩;go_simp;(try with_reducible rfl))
     simp only[Act.put,pu3]
     refine tkT 5 ?o5l ?v5l ?i5l hHeld ?_
     case i5l=>(refine⟨?_,?_,Or.inl ⟨?_,?_⟩⟩;simp only[gc3];rfl;exact fun _ _ _ h=>h;rfl;rintro W ⟨q0,q1,q2,q3,q4,q5⟩;go_simp;(try with_reducible rfl))
     simp only[Act.put,pu3]
     refine tkT 6 ?o6l ?v6l ?i6l hHeld ?_
     case i6l=>(refine⟨?_,?_,Or.inl ⟨?_,?_⟩⟩;simp only[gc3];rfl;exact fun _ _ _ h=>h;rfl;rintro W ⟨q0,q1,q2,q3,q4,q5⟩;go_simp;(try with_reducible rfl))
     simp only[Act.put,pu3]
     refine tkT 7 ?o7l ?v7l ?i7l hHeld ?_
     case i7l=>(refine⟨?_,?_,Or.inl ⟨?_,?_⟩⟩;simp only[gc3];rfl;exact fun _ _ _ h=>h;rfl;rintro W ⟨q0,q1,q2,q3,q4,q5⟩;go_simp;(try with_reducible rfl))
     simp only[Act.put,pu3]
     refine tkT 8 ?o8l ?v8l ?i8l hHeld ?_
     case i8l=>(refine⟨?_,?_,Or.inl ⟨?_,?_⟩⟩;simp only[gc3];rfl;exact fun _ _ _ h=>h;rfl;rintro W ⟨q0,q1,q2,q3,q4,q5⟩;go_simp;(try with_reducible rfl))
     simp only[Act.put,pu3]
     refine tkT 9 ?o9l ?v9l ?i9l hHeld ?_
     case i9l=>(refine⟨?_,?_,Or.inl ⟨?_,?_⟩⟩;simp only[gc3];rfl;exact fun _ _ _ h=>h;rfl;rintro W ⟨q0,q1,q2,q3,q4,q5⟩;go_simp;(try with_reducible rfl))
     simp only[Act.put,pu3]
     refine tkT 10 ?o10l ?v10l ?i10l hHeld ?_
     case i10l=>(refine⟨?_,?_,Or.inl ⟨?_,?_⟩⟩;simp only[gc3];rfl;exact fun _ _ _ h=>h;rfl;rintro W ⟨q0,q1,q2,q3,q4,q5⟩;go_simp;(try with_reducible rfl))
     simp only[Act.put,pu3]
     refine tkT 11 ?o11l ?v11l ?i11l hHeld ?_
     case i11l=>(refine⟨?_,?_,Or.inl ⟨?_,?_⟩⟩;simp only[gc3];rfl;exact fun _ _ _ h=>h;rfl;rintro W ⟨q0,q1,q2,q3,q4,q5⟩;go_simp;(try with_reducible rfl))
     simp only[Act.put,pu3]
     refine tkT 13 ?o13l ?v13l ?i13l hHeld ?_
     case i13l=>(refine⟨?_,?_,Or.inl ⟨?_,?_⟩⟩;simp only[gc3];rfl;exact fun _ _ _ h=>h;rfl;rintro W ⟨q0,q1,q2,q3,q4,q5⟩;go_simp;(try with_reducible rfl))
     simp only[Act.put,pu3]
     refine tkT 14 ?o14l ?v14l ?i14l hHeld ?_
     case i14l=>(refine⟨?_,?_,Or.inl ⟨?_,?_⟩⟩;simp only[gc3];rfl;exact fun _ _ _ h=>h;rfl;rintro W ⟨q0,q1,q2,q3,q4,q5⟩;go_simp;(try with_reducible rfl))
     simp only[Act.put,pu3]
     refine wpAnyT_one (i:=12) (o:=?o12l) (by kernel_rfl) ?i12l (fun K hK=>?c12l)
     case i12l=>(simp only[gc3];rfl)
     go_simp
     go_at_call 87
     refine(tells_x y (.into (.mk xi .loop xp xs xb (.cons y ys)) 0 cx) N0 gb U ns bl fl al kq _ (HE.out.below hd) HKQ.out (ctxAt.below hd _ _ HKID.out)).mono ?_
     rintro e wT ⟨vT,LT,rfl,hsT,htT,hbT⟩
     have hRT:=hRd.below hbT
     have hT1:=(hbT.cell (p:=⟨xi,1,none⟩) ltx).trans e1
     have hT3:=(hbT.cell (p:=⟨xi,3,none⟩) ltx).trans e3
     have hTk:=(hbT.cell (p:=⟨gk,0,none⟩) ltk).trans ek
     obtain⟨u1,u2,u3,u4,u5,u6,_,_,_,_,_⟩:=id hRT.cr
     refine hK.out _ _ (fun _=>⟨u3,u4,u5,hT1,hT3,hTk⟩) ?_
     clear hK K
     try simp only[Act.put,pu3]
     refine wpAnyT_one (i:=15) (o:=?o15l) (by kernel_rfl) ?i15l (fun K hK=>?c15l)
     case i15l=>(simp only[gc3];rfl)
     go_simp
     go_at_call 85
     refine(after_all cx (.mk xi .loop xp xs xb (.cons y ys)) N0 gb U ns bl fl al kq _ (HE.out.below hRT.cr.low) HKQ.out (ctxAt.below hRT.cr.low _ _ HCX.out)).mono ?_
     rintro e wA ⟨vA,LA,rfl,hsA,htA,hbA⟩
     have hRA:=hRT.below hbA
     have hZ1:=(hbA.cell (p:=⟨xi,1,none⟩) (bltc hT1)).trans hT1
     have hZ3:=(hbA.cell (p:=⟨xi,3,none⟩) (bltc hT3)).trans hT3
     have hZk:=(hbA.cell (p:=⟨gk,0,none⟩) (bltc hTk)).trans hTk
     obtain⟨v1,v2,v3,v4,v5,v6,_,_,_,_⟩:=id hRA.cr
     refine hK.out _ _ (fun _=>⟨v3,v4,v5,hZ1,hZ3,hZk⟩) ?_
     clear hK K
     try simp only[Act.put,pu3]
     refine wpAnyT_one (i:=16) (o:=?o16l) (by kernel_rfl) ?i16l (fun K hK=>?c16l)
     case i16l=>(simp only[gc3];rfl)
     go_simp
     go_at_call 86
     refine(sooner_x _ best W A c hR.is xp _ _ LT LA (hsT.below hbA) hsA).mono ?_
     rintro e wS ⟨W2,A2,c2,rfl,hi2,hbS⟩
     have hRS:=ClR.below hRA hbS
     have hS1:=(hbS.cell (p:=⟨xi,1,none⟩) (bltc hZ1)).trans hZ1
     have hS3:=(hbS.cell (p:=⟨xi,3,none⟩) (bltc hZ3)).trans hZ3
     have hSk:=(hbS.cell (p:=⟨gk,0,none⟩) (bltc hZk)).trans hZk
     obtain⟨s1,s2,s3,s4,s5,s6,_,_,_,_⟩:=id hRS.cr
     refine hK.out _ _ (fun _=>⟨s3,s4,s5,hS1,hS3,hSk⟩) ?_
     clear hK K
     try simp only[Act.put,pu3]
     refine wpAnyT_one (i:=17) (o:=?o17l) (by kernel_rfl) ?i17l (fun K hK=>?c17l)
     case i17l=>(simp only[gc3];rfl)
     go_simp
     refine hK.out _ _ (fun h=>absurd rfl h) ?_
     clear hK K
     try simp only[Act.put,pu3]
     refine wpAnyT_done (by kernel_rfl) ?_ _
     go_wp2_with fail
     have hSo:=soon_place (P:=fun u=>PredP.telX u (hasOf ns fl u) (kOf ns bl) (aAt al kq u) y (.into (.mk xi .loop xp xs xb (.cons y ys)) 0 cx)&&PredP.aftC u (hasOf ns fl u) (kOf ns bl) (aAt al kq u) (.mk xi .loop xp xs xb (.cons y ys)) cx) hR.soon (by rw[HALL.out,PredP.contrib,List.append_assoc];rfl) HCN.out htT htA (fun _=>rfl)
     exact⟨⟨j+1,W2,A2,c2,_,by omega,by go_num,by rw[HPL.out,PredP.contrib];exact hRS.set hi2 hSo⟩,by simp[intOf];omega⟩
    | bar =>
     simp only[opB]at e0
     have hbl:=HSH.out.2.1 rfl
     obtain⟨⟨tieW,hxW⟩,_,_⟩:=HCX.out.self
     unfold xAt at hxW
     obtain⟨_,_,L0,B0,U1,k1,id1,hblkW,hLW,hBW,_,_⟩:=hxW
     have ltW:xi<w.heap.size:=(Array.getElem?_eq_some_iff.1 hblkW).1
     have c3W:w.cell? ⟨xi,3,none⟩=some L0:=by simp only[World.cell?,hblkW];rfl
     have c4W:w.cell? ⟨xi,4,none⟩=some B0:=by simp only[World.cell?,hblkW];rfl
     have eL:L=L0:=Option.some.inj (e3.symm.trans ((r1.cell (p:=⟨xi,3,none⟩) ltW).trans c3W))
     subst eL
     obtain⟨ak,nk,capk,rfl,hkm,_,hkl,hkc⟩:=hLW.gen
     unfold maxLen at hkm
     have HKL:Hid (xl.list.length=nk):=by
      show _=_
      rw[←PredP.Xs.len_ids]
      have:=hkl
      simp[ptrC]at this
      exact this
     have HBL:=hide hbl
     have HKC:=hide hkc
     have HBW:=hide hBW
     have HC4:=hide c4W
     have hrel1:BRel U ns bl fl al Q w ga (Q.map fun q=>q.2.1.id) kq (.mk xi .bar xp xs xb xl) xb xl cx (plC ns bl fl al (Q.take j)) 0 (.slice none 0 0) wr:=BRel.zero hR
     have hSm:=HE.out.fe.small
     clear hbl hkl hkc e1 e4 c3W c4W hLW hBW hblkW
     go_wp2_with fail
     clear r2 r3 r4 r5 r6 r7 r8 r9 r10 k0' hgl hR r1
     go_loopw [6,48] (fun v t wi=>∃n:Nat,n≤nk∧t=.int .i64 (n:Int)∧BRel U ns bl fl al Q w ga (Q.map fun q=>q.2.1.id) kq (.mk xi .bar xp xs xb xl) xb xl cx (plC ns bl fl al (Q.take j)) n v wi) (fun _ t _=>nk - (intOf t).toNat)
     case atStart=>exact⟨0,by omega,rfl,hrel1⟩
     case round =>
      clear hrel1 e0 e3
      obtain⟨n,hn,rfl,hB⟩:=hrel
      obtain⟨W2,A2,c2,best2,doneB,Lh,Ph,hC,hSh,hTh,hPU,h0n,hcon⟩:=hB
      obtain⟨s1,s2,s3,s4,s5,s6,_,_,_,s10,_⟩:=id hC.cr
      obtain⟨va,vn,vc,rfl,_⟩:=hSh.gen
      have hLh:Lh.length≤1000:=Nat.le_trans (hTh.length (m:=U) (fun u hu=>hPU u hu)) hSm
      have HPU:=hide hPU
      have H0N:=hide h0n
      have HCON:=hide hcon
      clear hPU h0n hcon
      by_cases hn':n<nk
      ·obtain⟨y,hy⟩:∃y,xl.list[n]?=some y:=⟨xl.list[n]'(by rw[HKL.out];exact hn'),List.getElem?_eq_getElem _⟩
       rcases HKC.out with hz | ⟨gk,rfl,_,hgk,hkcell⟩
       ·omega
       have ek:wr.cell? ⟨gk,n,none⟩=some (.pointer (some ⟨y.id,0,none⟩)):=(s1.cell (p:=⟨gk,n,none⟩) hgk).trans (hkcell n _ (by simp[ptrC,PredP.Xs.ids_list,hy]))
       have HKID:=hide (ctx_kid HCX.out HXN.out hy)
       have HTU:=hide (fun u hu=>tel_U (u:=u) HE.out HKID.out hu)
       have HDR:=hide (drop_list xl n y hy)
       clear hkcell
       rcases Nat.eq_zero_or_pos n with hn0 | hn0
       ·subst hn0
        obtain⟨hd0,hp0⟩:=H0N.out rfl
        have HY:Hid (∃ys,xl=.cons y ys):=by
         cases xl with
         | nil=>simp[PredP.Xs.list]at hy
         | cons z zs=>simp[PredP.Xs.list]at hy;subst hy;exact⟨zs,rfl⟩
        have HD0:=hide hd0
        have HP0:=hide hp0
        clear hy hd0 hp0
        go_wp2_with (first
         | (go_at_call 24;refine(xwith_any _ _ _ Lh LT (hSh.below hbT) hsT (by omega)).mono ?_;rintro e w3 ⟨v3,rfl,hs3,hb3⟩)
         | (go_at_call 87;refine(tells_x y (.into (.mk xi .bar xp xs xb xl) 0 cx) N0 gb U ns bl fl al kq _ (HE.out.below s1) HKQ.out (ctxAt.below s1 _ _ HKID.out)).mono ?_;rintro e wT ⟨vT,LT,rfl,hsT,htT,hbT⟩;have hlT:LT.length≤1000:=(Nat.le_trans (htT.length (m:=U) (fun u hu=>HTU.out u hu)) hSm)))
        have hC3:=hC.below (Below.all hbT hb3)
        refine⟨⟨0+1,by omega,by go_num,W2,A2,c2,best2,[],_,_,by rw[←HD0.out];exact hC3,hs3,(hTh.with htT).ext (Q:=fun u=>PredP.telX u (hasOf ns fl u) (kOf ns bl) (aAt al kq u) y (.into (.mk xi .bar xp xs xb xl) 0 cx)) (fun u=>by rw[HP0.out];simp),(fun u hu=>HTU.out u hu),(fun h=>absurd h (by omega)),fun _=>?_⟩,by simp[intOf];omega⟩
        obtain⟨ys,hys⟩:=HY.out
        subst hys
        rw[List.nil_append,PredP.contrib,PredP.Xs.drop,PredP.Xs.drop]
        rfl
       ·obtain⟨m,rfl⟩:∃m,n=m+1:=⟨n - 1,by omega⟩
        obtain⟨ab,nbr,capbr,hBv,hbm,_,hbll,hbc⟩:=HBW.out.gen
        unfold maxLen at hbm
        have hbn:xb.length=nbr:=by simpa[intC] using hbll
        have hmb:m<nbr:=by have h1:=HBL.out;have h2:=HKL.out;omega
        obtain⟨bm,hbmv⟩:∃bm,xb[m]?=some bm:=⟨xb[m]'(by omega),List.getElem?_eq_getElem _⟩
        subst hBv
        rcases hbc with hz | ⟨gbr,rfl,_,hgbr,hbcell⟩
        ·omega
        have eb:wr.cell? ⟨gbr,m,none⟩=some (.int .i64 (bm:Int)):=(s1.cell (p:=⟨gbr,m,none⟩) hgbr).trans (hbcell m _ (by simp[intC,hbmv]))
        have f4:wr.cell? ⟨xi,4,none⟩=some (.slice (some ⟨gbr,0,none⟩) nbr capbr):=(s1.cell (p:=⟨xi,4,none⟩) ltW).trans HC4.out
        have HBM:=hide (drop_get hbmv)
        have hd:Below w.heap.size w wr.drew:=s1.drew
        have hCd:=hC.below (Below.refl _ wr).drew
        have ltx:=bltc f4
        have ltb:=bltc eb
        have hwm:IntKind.i64.wrap (m:Int)=(m:Int):=by rw[IntKind.wrap_i64];omega
        clear hbcell hbll hbn hbmv hy
        go_wp2_with fail
        refine wp_region_T (S:=fun W'=>W'.cell? ⟨w.heap.size+1,0,none⟩=some (.int .i64 (W2:Int))∧W'.cell? ⟨w.heap.size+1,1,none⟩=some (.int .i64 (A2:Int))∧W'.cell? ⟨w.heap.size+1,2,none⟩=some (.string c2)∧W'.cell? ⟨xi,4,none⟩=some (.slice (some ⟨gbr,0,none⟩) nbr capbr)∧W'.cell? ⟨gbr,m,none⟩=some (.int .i64 (bm:Int))) (t:=14) (by kernel_rfl) ⟨s3,s4,s5,f4,eb⟩ ?_
        intro hHeld
        refine tkT 0 ?o0z ?v0z ?i0z hHeld ?_
        case i0z=>(refine⟨?_,?_,Or.inl ⟨?_,?_⟩⟩;simp only[gc3];rfl;exact fun _ _ _ h=>h;rfl;rintro W ⟨q0,q1,q2,q3,q4⟩;go_simp;(try with_reducible rfl))
        simp only[Act.put,pu3]
        refine tkT 1 ?o1z ?v1z ?i1z hHeld ?_
        case i1z=>(refine⟨?_,?_,Or.inl ⟨?_,?_⟩⟩;simp only[gc3];rfl;exact fun _ _ _ h=>h;rfl;rintro W ⟨q0,q1,q2,q3,q4⟩;go_simp;(try with_reducible rfl))
        simp only[Act.put,pu3]
        refine tkT 2 ?o2z ?v2z ?i2z hHeld ?_
        case i2z=>(refine⟨?_,?_,Or.inl ⟨?_,?_⟩⟩;simp only[gc3];rfl;exact fun _ _ _ h=>h;rfl;rintro W ⟨q0,q1,q2,q3,q4⟩;go_simp;(try with_reducible rfl))
        simp only[Act.put,pu3]
        refine tkT 3 ?o3z ?v3z ?i3z hHeld ?_
        case i3z=>(refine⟨?_,?_,Or.inl ⟨?_,?_⟩⟩;simp only[gc3];rfl;exact fun _ _ _ h=>h;rfl;rintro W ⟨q0,q1,q2,q3,q4⟩;go_simp;(try with_reducible rfl))
        simp only[Act.put,pu3]
        refine tkT 4 ?o4z ?v4z ?i4z hHeld ?_
        case i4z=>(refine⟨?_,?_,Or.inl ⟨?_,?_⟩⟩;simp only[gc3];rfl;exact fun _ _ _ h=>h;rfl;rintro W ⟨q0,q1,q2,q3,q4⟩;go_simp;(try with_reducible rfl))
        simp only[Act.put,pu3]
        refine tkT 5 ?o5z ?v5z ?i5z hHeld ?_
        case i5z=>(refine⟨?_,?_,Or.inl ⟨?_,?_⟩⟩;simp only[gc3];rfl;exact fun _ _ _ h=>h;rfl;rintro W ⟨q0,q1,q2,q3,q4⟩;go_simp;(try with_reducible rfl))
        simp only[Act.put,pu3]
        refine tkT 6 ?o6z ?v6z ?i6z hHeld ?_
        case i6z=>(refine⟨?_,?_,Or.inl ⟨?_,?_⟩⟩;simp only[gc3];rfl;exact fun _ _ _ h=>h;rfl;rintro W ⟨q0,q1,q2,q3,q4⟩;go_simp;(try rw[hwm]);(try with_reducible rfl))
        simp only[Act.put,pu3]
        refine tkT 7 ?o7z ?v7z ?i7z hHeld ?_
        case i7z=>(refine⟨?_,?_,Or.inl ⟨?_,?_⟩⟩;simp only[gc3];rfl;exact fun _ _ _ h=>h;rfl;rintro W ⟨q0,q1,q2,q3,q4⟩;go_simp;(try rw[hwm]);(try rw[if_pos ⟨by omega,by omega⟩,Int.toNat_natCast]);(try with_reducible rfl))
        simp only[Act.put,pu3]
        refine tkT 8 ?o8z ?v8z ?i8z hHeld ?_
        case i8z=>(refine⟨?_,?_,Or.inl ⟨?_,?_⟩⟩;simp only[gc3];rfl;exact fun _ _ _ h=>h;rfl;rintro W ⟨q0,q1,q2,q3,q4⟩;go_simp;(try with_reducible rfl))
        simp only[Act.put,pu3]
        refine tkT 9 ?o9z ?v9z ?i9z hHeld ?_
        case i9z=>(refine⟨?_,?_,Or.inl ⟨?_,?_⟩⟩;simp only[gc3];rfl;exact fun _ _ _ h=>h;rfl;rintro W ⟨q0,q1,q2,q3,q4⟩;go_simp;(try with_reducible rfl))
        simp only[Act.put,pu3]
        refine tkT 10 ?o10z ?v10z ?i10z hHeld ?_
        case i10z=>(refine⟨?_,?_,Or.inl ⟨?_,?_⟩⟩;simp only[gc3];rfl;exact fun _ _ _ h=>h;rfl;rintro W ⟨q0,q1,q2,q3,q4⟩;go_simp;(try with_reducible rfl))
        simp only[Act.put,pu3]
        refine tkT 11 ?o11z ?v11z ?i11z hHeld ?_
        case i11z=>(refine⟨?_,?_,Or.inl ⟨?_,?_⟩⟩;simp only[gc3];rfl;exact fun _ _ _ h=>h;rfl;rintro W ⟨q0,q1,q2,q3,q4⟩;go_simp;(try with_reducible rfl))
        simp only[Act.put,pu3]
        refine wpAnyT_one (i:=12) (o:=?o12z) (by kernel_rfl) ?i12z (fun K hK=>?c12z)
        case i12z=>(simp only[gc3];rfl)
        go_simp
        go_at_call 87
        refine(tells_x y (.into (.mk xi .bar xp xs xb xl) (m+1) cx) N0 gb U ns bl fl al kq _ (HE.out.below hd) HKQ.out (ctxAt.below hd _ _ HKID.out)).mono ?_
        rintro e wT ⟨vT,LT,rfl,hsT,htT,hbT⟩
        have hlT:LT.length≤1000:=(Nat.le_trans (htT.length (m:=U) (fun u hu=>HTU.out u hu)) hSm)
        have hCT:=hCd.below hbT
        have hT4:=(hbT.cell (p:=⟨xi,4,none⟩) ltx).trans f4
        have hTb:=(hbT.cell (p:=⟨gbr,m,none⟩) ltb).trans eb
        obtain⟨u1,u2,u3,u4,u5,u6,_,_,_,_,_⟩:=id hCT.cr
        refine hK.out _ _ (fun _=>⟨u3,u4,u5,hT4,hTb⟩) ?_
        clear hK K
        try simp only[Act.put,pu3]
        refine wpAnyT_one (i:=13) (o:=?o13z) (by kernel_rfl) ?i13z (fun K hK=>?c13z)
        case i13z=>(simp only[gc3];rfl)
        go_simp
        go_at_call 86
        refine(sooner_x _ best2 W2 A2 c2 hC.is bm _ _ Lh LT ((hSh.drew).below hbT) hsT).mono ?_
        rintro e wS ⟨W3,A3,c3,rfl,hi3,hbS⟩
        have hCS:=hCT.below hbS
        have hS4:=(hbS.cell (p:=⟨xi,4,none⟩) (bltc hT4)).trans hT4
        have hSb:=(hbS.cell (p:=⟨gbr,m,none⟩) (bltc hTb)).trans hTb
        obtain⟨x1,x2,x3,x4,x5,x6,_,_,_,_,_⟩:=id hCS.cr
        refine hK.out _ _ (fun _=>⟨x3,x4,x5,hS4,hSb⟩) ?_
        clear hK K
        try simp only[Act.put,pu3]
        refine wpAnyT_one (i:=14) (o:=?o14z) (by kernel_rfl) ?i14z (fun K hK=>?c14z)
        case i14z=>(simp only[gc3];rfl)
        go_simp
        refine hK.out _ _ (fun h=>absurd rfl h) ?_
        clear hK K
        try simp only[Act.put,pu3]
        refine wpAnyT_done (by kernel_rfl) ?_ _
        have hcon:=HCON.out hn0
        rw[show m+1 - 1=m by omega,HBM.out,HDR.out,PredP.barPl]at hcon
        have hSo:=soon_place (P:=fun u=>Ph u&&PredP.telX u (hasOf ns fl u) (kOf ns bl) (aAt al kq u) y (.into (.mk xi .bar xp xs xb xl) (m+1) cx)) hC.soon (by rw[HALL.out,hcon];simp only[List.append_assoc,List.cons_append];rfl) HCN.out hTh htT (fun _=>rfl)
        have hCz:=hCS.set hi3 hSo
        have hbz:=set_butc (w:=w) (wr:=wS) (.int .i64 (W3:Int)) (.int .i64 (A3:Int)) (.string c3)
        have hshz:strs (((wS.setCell ⟨w.heap.size+1,0,none⟩ (.int .i64 (W3:Int))).setCell ⟨w.heap.size+1,1,none⟩ (.int .i64 (A3:Int))).setCell ⟨w.heap.size+1,2,none⟩ (.string c3)) (.slice va vn vc) Lh:=((hSh.drew).below hbT).below hbS |>.carry hbz.size (fun b hl ⟨cs,f,hb⟩=>hbz.block b hl (fun he=>by subst he;obtain⟨cs2,f2,hb2⟩:=hCS.cr.at1;rw[hb2]at hb;simp at hb))
        have HCON2:=hide hcon
        clear hcon hSo
        generalize ((wS.setCell ⟨w.heap.size+1,0,none⟩ (.int .i64 (W3:Int))).setCell ⟨w.heap.size+1,1,none⟩ (.int .i64 (A3:Int))).setCell ⟨w.heap.size+1,2,none⟩ (.string c3)=wZ at hCz hbz hshz ⊢
        have hlowz:=hCz.cr.low
        go_wp2_with (first
         | (go_at_call 24;refine(xwith_any _ _ _ Lh LV (hshz.below hbV) hsV (by omega)).mono ?_;rintro e w5 ⟨v5,rfl,hs5,hb5⟩)
         | (go_at_call 87;refine(tells_x y (.into (.mk xi .bar xp xs xb xl) (m+1) cx) N0 gb U ns bl fl al kq _ (HE.out.below hlowz) HKQ.out (ctxAt.below hlowz _ _ HKID.out)).mono ?_;rintro e wV ⟨vV,LV,rfl,hsV,htV,hbV⟩;have hlV:LV.length≤1000:=(Nat.le_trans (htV.length (m:=U) (fun u hu=>HTU.out u hu)) hSm)))
        refine⟨⟨m+1+1,by omega,by go_num,W3,A3,c3,_,doneB++[(bm,fun u=>Ph u&&PredP.telX u (hasOf ns fl u) (kOf ns bl) (aAt al kq u) y (.into (.mk xi .bar xp xs xb xl) (m+1) cx))],_,_,by rw[←List.append_assoc];exact hCz.below (Below.all hbV hb5),hs5,hTh.with htV,(fun u hu=>?_),(fun h=>absurd h (by omega)),fun _=>?_⟩,by simp[intOf];omega⟩
        ·rw[Bool.or_eq_true]at hu
         exact hu.elim (HPU.out u) (HTU.out u)
        ·rw[HCON2.out];simp only[List.append_assoc,List.cons_append,List.nil_append];rfl
      ·have HDE:=hide (drop_end xl n (by rw[HKL.out];omega))
       have hnp:0<n:=by have:=HBL.out;have:=HKL.out;omega
       have HNP:=hide hnp
       clear hnp
       go_wp2_with fail
       refine⟨⟨j+1,W2,A2,c2,best2,by omega,by go_num,?_⟩,by simp[intOf];omega⟩
       have hcon:=HCON.out HNP.out
       rw[HDE.out,bar_nil,List.append_nil]at hcon
       rw[HPL.out,hcon]
       exact hC
   ·have hQe:Q.take j=Q:=List.take_of_length_le (by rw[HNQ.out];omega)
    have HQE:=hide hQe
    clear hQe
    go_wp2_with fail
    have hB:Below w.heap.size w (((wr.setCell ⟨w.heap.size,0,none⟩ (.int .i64 (W:Int))).setCell ⟨w.heap.size,1,none⟩ (.int .i64 (A:Int))).setCell ⟨w.heap.size,2,none⟩ (.string c)):=((r1.setCell (by simp) _).setCell (by simp) _).setCell (by simp) _
    refine bodyPost_ret (v:=fltV W A c) (by simp[results,Tryz.results58,go_sem,r7,r8,r9]) rfl ⟨best,⟨W,A,c,rfl,hR.is,hB⟩,?_⟩
    have:=hR.soon
    rwa[HQE.out]at this
end Go.Proofs.YtpcmemcanpgadaaGreatDoor
