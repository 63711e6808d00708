import Derived.Test.YtpcmemcanpgadaaGreatDoorXDerG
import Derived.Test.YtpcmemcanpgadaaGreatDoorPureX
import Derived.Test.YtpcmemcanpgadaaGreatDoorXAft
set_option maxHeartbeats 1000000
set_option maxRecDepth 100000
namespace Go.Proofs.YtpcmemcanpgadaaGreatDoor
open PredP (hide Str Rule bs)
section
open Go.RowKit
mutual
theorem parts_ids:∀(x:PredP.X) (c:PredP.Ctx),(PredP.partsX c x).map (fun q=>q.1.id)=x.all
 | .mk i o p s b l,c=>by rw[PredP.partsX,List.map_cons,PredP.X.all,parts_idss l _ c 0];rfl
theorem parts_idss:∀(l:PredP.Xs) (p:PredP.X) (c:PredP.Ctx) (n:Nat),(PredP.partsXs p c n l).map (fun q=>q.1.id)=l.all
 | .nil,_,_,_=>by rw[PredP.partsXs,PredP.Xs.all];rfl
 | .cons x l,p,c,n=>by rw[PredP.partsXs,List.map_append,PredP.Xs.all,parts_ids x,parts_idss l p c (n+1)]
end
theorem all_take {l:PredP.Xs} {j:Nat} {y:PredP.X} (h:l.list[j]?=some y):(l.list.take (j+1)).flatMap PredP.X.all=(l.list.take j).flatMap PredP.X.all++y.all:=by
 rw[List.take_add_one,h,List.flatMap_append];simp
theorem flat_take_le {l:List PredP.X} (j:Nat):((l.take j).flatMap PredP.X.all).length≤(l.flatMap PredP.X.all).length:=by
 conv=>rhs;rw[←List.take_append_drop j l,List.flatMap_append,List.length_append]
 omega
def PartsPost (w:World) (ids:List Nat) (e:Ending) (w':World):Prop:=∃v,e=.returned v∧w'.ownsRow w.heap.size 83 1 v ids.length (ptrC ids)∧Below w.heap.size w w'
def PartsC (x:PredP.X):Prop:=∀(okN okA:Nat→Prop) (tie:Option (Option Nat×Nat)) (w:World),xAt okN okA w tie x→x.all.length≤100000 →
 Calls Tryz.prog 82 #[.pointer (some ⟨x.id,0,none⟩)] w (PartsPost w x.all)
theorem ptrC_app (l m:List Nat):ptrC (l++m)=ptrC l++ptrC m:=by simp[ptrC]
theorem ptrC_length (l:List Nat):(ptrC l).length=l.length:=by simp[ptrC]
theorem ptrC_one (l:List Nat):∀u∈ptrC l,u.oneCell'=true:=by
 intro u hu
 unfold ptrC at hu
 obtain⟨i,_,rfl⟩:=List.mem_map.1 hu
 rfl
theorem own_some {w:World} {base n:Nat} {v:Value} {xs:List Value} {e:TypeId} (h:w.ownsRow base e 1 v n xs) (hn:0<n):∃g cap,v=.slice (some ⟨g,0,none⟩) n cap∧base≤g∧g<w.heap.size∧∀j u,xs[j]?=some u→w.cell? ((⟨g,0,none⟩:Addr).add j)=some u:=by
 rcases h.2 with ⟨_,h0⟩ | ⟨g,cap,cur,hv,hb,hg,hc,_⟩
 ·omega
 ·exact⟨g,cap,hv,hb,(Array.getElem?_eq_some_iff.1 hg).1,fun j u hu=>h.cells (g:=g) (by rw[hv];rfl) j u hu⟩
theorem all_pos:∀x:PredP.X,0<x.all.length
 | .mk i o p s b l=>by rw[PredP.X.all];simp
structure PRel (w:World) (pre:List Nat) (l:List PredP.X) (j:Nat) (v:Value) (wr:World):Prop where
 low:Below w.heap.size w wr
 own:wr.ownsRow w.heap.size 83 1 v (pre++(l.take j).flatMap PredP.X.all).length (ptrC (pre++(l.take j).flatMap PredP.X.all))
theorem PRel.step {w:World} {pre:List Nat} {l:List PredP.X} {j:Nat} {v v':Value} {wr w2 w3:World} (h:PRel w pre l j v wr) {y:PredP.X} (hy:l[j]?=some y) (hb:Below wr.heap.size wr w2) (hg:w2.grownBy w3 v.ownBlock)
  (hown:w3.ownsRow w.heap.size 83 1 v' ((pre++(l.take j).flatMap PredP.X.all).length+y.all.length) (ptrC (pre++(l.take j).flatMap PredP.X.all)++ptrC y.all)):PRel w pre l (j+1) v' w3:=by
 have e:pre++(l.take (j+1)).flatMap PredP.X.all=(pre++(l.take j).flatMap PredP.X.all)++y.all:=by
  rw[List.take_add_one,hy,List.flatMap_append,List.append_assoc];simp
 have h2:=Below.all h.low hb
 refine⟨h2.grown hg h2.size (fun k hk=>(h.own.lt k hk).1),?_⟩
 rw[e,ptrC_app,List.length_append]
 exact hown
theorem parts_x (x:PredP.X) (IH:Hid (∀y:PredP.X,SizeOf.sizeOf y<SizeOf.sizeOf x→PartsC y)):PartsC x:=by
 intro okN okA tie w hx hlen
 obtain⟨i,o,p,s,b,l⟩:=x
 unfold xAt at hx
 obtain⟨hok,hsl,L,B,U,k0,id0,hblk,hL,hB,_,hkids⟩:=hx
 obtain⟨a,nl,cap,rfl,hm,_,hll,hc⟩:=hL.gen
 unfold maxLen at hm
 have HKD:=hide hkids
 have HC:=hide hc
 have HL:Hid (l.list.length=nl):=by
  show _=_
  rw[←PredP.Xs.len_ids]
  have:=hll
  simp[ptrC]at this
  exact this
 obtain⟨i0,hi,hz0,hz1,hz2⟩:=info_parts infoPExp
 have hlt:i<w.heap.size:=(Array.getElem?_eq_some_iff.1 hblk).1
 have c3:w.cell? ⟨i,3,none⟩=some (.slice a nl cap):=by simp only[World.cell?,hblk];rfl
 have hlen':1+(l.list.flatMap PredP.X.all).length≤100000:=by rw[PredP.X.all,all_list]at hlen;simp at hlen;simp;omega
 have hrel0:PRel w [i] l.list 0 (.slice (some ⟨w.heap.size,0,none⟩) 1 1) (w.alloc (.cells #[.pointer (some ⟨i,0,none⟩)] 83)) :=
  ⟨(Below.refl _ _).alloc (Nat.le_refl _) _,⟨rfl,.inr ⟨w.heap.size,1,_,rfl,Nat.le_refl _,heap_alloc_new w _,Nat.le_refl _,by unfold maxLen;omega,rfl,rfl⟩⟩⟩
 have c3':(w.alloc (.cells #[.pointer (some ⟨i,0,none⟩)] 83)).cell? ⟨i,3,none⟩=some (.slice a nl cap):=al c3
 clear hL hB hc hkids hll hblk hlen
 simp only[PredP.X.id]
 go_enter Tryz.func82,Tryz.ntmps82
 go_wp2_with fail
 go_loopw [3,13] (fun v t wr=>∃j:Nat,j≤nl∧t=.int .i64 j∧PRel w [i] l.list j v wr) (fun _ t _=>nl - (intOf t).toNat)
 case atStart=>exact⟨0,by omega,rfl,hrel0⟩
 case round =>
  clear hrel0
  obtain⟨j,hj,rfl,hR⟩:=hrel
  by_cases hj':j<nl
  ·obtain⟨y,hy⟩:∃y,l.list[j]?=some y:=⟨l.list[j]'(by rw[HL.out];exact hj'),List.getElem?_eq_getElem _⟩
   rcases HC.out with h0 | ⟨g,rfl,hokg,hg,hcell⟩
   ·omega
   have k0':wr.cell? ⟨g,j,none⟩=some (.pointer (some ⟨y.id,0,none⟩)):=(hR.low.cell (p:=⟨g,j,none⟩) hg).trans (hcell j _ (by simp[ptrC,PredP.Xs.ids_list,hy]))
   have hmem:=List.mem_of_getElem? hy
   have hyl:y.all.length≤(l.list.flatMap PredP.X.all).length:=by
    have h1:=flat_take_le (l:=l.list) (j+1)
    rw[all_take hy,List.length_append]at h1
    omega
   have htl:=flat_take_le (l:=l.list) j
   have htl2:=flat_take_le (l:=l.list) (j+1)
   rw[all_take hy,List.length_append]at htl2
   have hyp:=all_pos y
   have HIH:=hide (IH.out y (by have:=list_size l y hmem;simp;omega) okN okA _ wr (xAt.carry hR.low.size (fun b h1 h2=>⟨h1,hR.low.block b h2⟩) (fun b h1 h2=>⟨h1,hR.low.block b h2⟩) y _ ((xsAt_iff l).1 HKD.out y hmem)) (by omega))
   have HY:=hide hy
   have hlow:=hR.low.size
   have hpl:([i]++(l.list.take j).flatMap PredP.X.all).length+y.all.length≤100000:=by rw[List.length_append,List.length_singleton];omega
   clear hy hmem hcell
   go_wp2_with (first
    | (at_builtin;refine wpList_append_own_at _ rfl _ _ _ rfl w.heap.size 83 i0 (.pointer none) 1 8 (by kernel_rfl) hi hz0 hz1 hz2 rfl (by decide) _ _ _ rfl (own_below hR.own hb2) ⟨g2,0,none⟩ y.all.length cap2 (ptrC y.all) rfl (by rw[ptrC_length];omega) hcs2 (ptrC_one _) (by unfold maxLen;omega) (by omega) (by have:=hb2.size;omega) ?_;intro v' w3 hown3 hgrow3 _ _)
    | (go_at_call 82;refine HIH.out.mono ?_;rintro e w2 ⟨v2,rfl,hown2,hb2⟩;obtain⟨g2,cap2,rfl,hg2,hgl2,hcs2⟩:=own_some hown2 hyp))
   exact⟨⟨j+1,by omega,by go_num,hR.step HY.out hb2 hgrow3 hown3⟩,by simp[intOf];omega⟩
  ·have htk:l.list.take j=l.list:=List.take_of_length_le (by rw[HL.out];omega)
   obtain⟨hb,ho⟩:=hR
   rw[htk]at ho
   clear htk
   have HO:=hide ho
   obtain⟨va,vn,vc,rfl⟩:=own_slice ho
   clear ho
   go_wp2_with fail
   go_ret
   refine⟨_,rfl,?_,hb⟩
   rw[PredP.X.all,all_list]
   exact HO.out
theorem parts_all (x:PredP.X):PartsC x:=by
 induction h:SizeOf.sizeOf x using Nat.strongRecOn generalizing x with
 | ind n ih=>exact parts_x x (hide fun y hy=>ih _ (by omega) y rfl)
end
section
open Go.RowKit
structure GT (N0 gb:Nat) (G:List Rule) (l:List PredP.X) (w:World):Prop where
 gm:GM N0 gb (PredP.names G) w
 ats:∃vA,w.cell? ⟨gb,1,none⟩=some vA∧slAt (okG N0 gb) w 1 vA (intC (G.map (·.pos)))
 exs:∃vE,w.cell? ⟨gb,2,none⟩=some vE∧slAt (okG N0 gb) w 1 vE (ptrC (l.map PredP.X.id))
 tr:PredP.Trees G l
 xs:∀k x,l[k]?=some x→xAt (okG N0 gb) (okG N0 gb) w (some (none,k)) x
 nd:(l.flatMap PredP.X.all).Nodup
 cnt:(l.flatMap PredP.X.all).length≤100000
theorem GT.below {N0 gb:Nat} {G:List Rule} {l:List PredP.X} {w w':World} (h:GT N0 gb G l w) (hb:Below w.heap.size w w'):GT N0 gb G l w':=by
 obtain⟨h1,⟨vA,h2,h3⟩,⟨vE,h4,h5⟩,h6,h7,h8,h9⟩:=h
 exact⟨h1.below hb,⟨vA,(gm_cell h1 hb 1).trans h2,h3.carry hb.size (fun b hb' hl=>⟨hb',hb.block b hl⟩)⟩,⟨vE,(gm_cell h1 hb 2).trans h4,h5.carry hb.size (fun b hb' hl=>⟨hb',hb.block b hl⟩)⟩,h6,fun k x hx=>(h7 k x hx).below hb,h8,h9⟩
theorem PRel.zero {w:World} {l:List PredP.X}:PRel w [] l 0 (.slice none 0 0) w:=⟨Below.refl _ _,World.ownsRow_nil _ _ _ _⟩
theorem all_x (N0 gb:Nat) (G:List Rule) (l:List PredP.X) (w:World) (h:GT N0 gb G l w) :
  Calls Tryz.prog 54 #[.pointer (some ⟨gb,0,none⟩)] w (PartsPost w (l.flatMap PredP.X.all)):=by
 obtain⟨vE,c2,hE⟩:=h.exs
 obtain⟨a,nl,cap,rfl,hm,_,hll,hc⟩:=hE.gen
 unfold maxLen at hm
 have HG:=hide h
 have HC:=hide hc
 have HL:Hid (l.length=nl):=by
  show _=_
  simpa[ptrC] using hll
 obtain⟨i0,hi,hz0,hz1,hz2⟩:=info_parts infoPExp
 have hcnt:=h.cnt
 have hrel0:PRel w [] l 0 (.slice none 0 0) w:=PRel.zero
 clear hE hc hll h
 go_enter Tryz.func54,Tryz.ntmps54
 go_wp2_with fail
 go_loopw [3,11] (fun v t wr=>∃j:Nat,j≤nl∧t=.int .i64 j∧PRel w [] l j v wr) (fun _ t _=>nl - (intOf t).toNat)
 case atStart=>exact⟨0,by omega,rfl,hrel0⟩
 case round =>
  clear hrel0
  obtain⟨j,hj,rfl,hR⟩:=hrel
  by_cases hj':j<nl
  ·obtain⟨y,hy⟩:∃y,l[j]?=some y:=⟨l[j]'(by rw[HL.out];exact hj'),List.getElem?_eq_getElem _⟩
   rcases HC.out with h0 | ⟨g,rfl,hokg,hg,hcell⟩
   ·omega
   have k0':wr.cell? ⟨g,j,none⟩=some (.pointer (some ⟨y.id,0,none⟩)):=(hR.low.cell (p:=⟨g,j,none⟩) hg).trans (hcell j _ (by simp[ptrC,hy]))
   have htl:=flat_take_le (l:=l) (j+1)
   have e1:(l.take (j+1)).flatMap PredP.X.all=(l.take j).flatMap PredP.X.all++y.all:=by rw[List.take_add_one,hy,List.flatMap_append];simp
   rw[e1,List.length_append]at htl
   have hyp:=all_pos y
   have HIH:=hide (parts_all y _ _ _ wr ((HG.out.xs j y hy).below hR.low) (by omega))
   have HY:=hide hy
   have hlow:=hR.low.size
   have hpl:([]++(l.take j).flatMap PredP.X.all).length+y.all.length≤100000:=by rw[List.nil_append];omega
   clear hy hcell e1 htl
   go_wp2_with (first
    | (at_builtin;refine wpList_append_own_at _ rfl _ _ _ rfl w.heap.size 83 i0 (.pointer none) 1 8 (by kernel_rfl) hi hz0 hz1 hz2 rfl (by decide) _ _ _ rfl (own_below hR.own hb2) ⟨g2,0,none⟩ y.all.length cap2 (ptrC y.all) rfl (by rw[ptrC_length];omega) hcs2 (ptrC_one _) (by unfold maxLen;omega) (by omega) (by have:=hb2.size;omega) ?_;intro v' w3 hown3 hgrow3 _ _)
    | (go_at_call 82;refine HIH.out.mono ?_;rintro e w2 ⟨v2,rfl,hown2,hb2⟩;obtain⟨g2,cap2,rfl,hg2,hgl2,hcs2⟩:=own_some hown2 hyp))
   exact⟨⟨j+1,by omega,by go_num,hR.step HY.out hb2 hgrow3 hown3⟩,by simp[intOf];omega⟩
  ·have htk:l.take j=l:=List.take_of_length_le (by rw[HL.out];omega)
   obtain⟨hb,ho⟩:=hR
   rw[htk]at ho
   clear htk
   have HO:=hide ho
   obtain⟨va,vn,vc,rfl⟩:=own_slice ho
   clear ho
   go_wp2_with fail
   go_ret
   exact⟨_,rfl,HO.out,hb⟩
theorem drop_get':∀(l:PredP.Xs) (n:Nat) (y:PredP.X) (m:PredP.Xs),l.drop n=.cons y m→l.list[n]?=some y
 | l,0,y,m,h=>by rw[PredP.Xs.drop]at h;subst h;simp[PredP.Xs.list]
 | .nil,n+1,y,m,h=>by rw[PredP.Xs.drop]at h;cases h
 | .cons x l,n+1,y,m,h=>by rw[PredP.Xs.drop]at h;rw[PredP.Xs.list,List.getElem?_cons_succ];exact drop_get' l n y m h
theorem ids_nodup:∀l:PredP.Xs,l.all.Nodup→l.ids.Nodup
 | .nil,_=>by rw[PredP.Xs.ids];exact List.nodup_nil
 | .cons x l,h=>by
  rw[PredP.Xs.all,List.nodup_append]at h
  rw[PredP.Xs.ids,List.nodup_cons]
  refine⟨fun hm=>?_,ids_nodup l h.2.1⟩
  rw[PredP.Xs.ids_list]at hm
  obtain⟨y,hy,he⟩:=List.mem_map.1 hm
  exact h.2.2 x.id (PredP.X.id_mem x) x.id (by rw[all_list];exact List.mem_flatMap.2 ⟨y,hy,by rw[←he];exact PredP.X.id_mem y⟩) rfl
theorem ctx_kids {N0 gb:Nat} {U ns:List Str} {w:World} {k:Nat}:∀{c:PredP.Ctx} {pi:Nat} {po:PredP.XOp} {pp:Nat} {ps:Str} {pb:List Nat} {pl:PredP.Xs},ctxAt N0 gb U ns w k (.mk pi po pp ps pb pl) c→xsAt (okG N0 gb) (okG N0 gb) w (some (some pi,k)) pl
 | .top,pi,po,pp,ps,pb,pl,h=>by
  unfold ctxAt at h
  obtain⟨h,_⟩:=h
  unfold xAt at h
  obtain⟨_,_,_,_,_,_,_,_,_,_,_,hk⟩:=h
  exact hk
 | .into p i c,pi,po,pp,ps,pb,pl,h=>by
  unfold ctxAt at h
  obtain⟨h,_⟩:=h
  unfold xAt at h
  obtain⟨_,_,_,_,_,_,_,_,_,_,_,hk⟩:=h
  exact hk
mutual
theorem ctx_X {N0 gb:Nat} {U ns:List Str} {w:World} {k:Nat}:∀(x:PredP.X) (c:PredP.Ctx),ctxAt N0 gb U ns w k x c→x.all.Nodup→∀q,q∈PredP.partsX c x→ctxAt N0 gb U ns w k q.1 q.2
 | .mk i o p s b l,c,h,hnd,q,hq=>by
  rw[PredP.partsX]at hq
  rcases List.mem_cons.1 hq with rfl | hq
  ·exact h
  ·exact ctx_Xs l (.mk i o p s b l) c 0 (by rw[PredP.X.kids,PredP.Xs.drop]) h hnd q hq
theorem ctx_Xs {N0 gb:Nat} {U ns:List Str} {w:World} {k:Nat}:∀(l:PredP.Xs) (p:PredP.X) (c:PredP.Ctx) (n:Nat),p.kids.drop n=l→ctxAt N0 gb U ns w k p c→p.all.Nodup→∀q,q∈PredP.partsXs p c n l→ctxAt N0 gb U ns w k q.1 q.2
 | .nil,p,c,n,_,_,_,q,hq=>by rw[PredP.partsXs]at hq;cases hq
 | .cons y l,p,c,n,hd,h,hnd,q,hq=>by
  rw[PredP.partsXs]at hq
  rcases List.mem_append.1 hq with hq | hq
  ·have hy:p.kids.list[n]?=some y:=drop_get' p.kids n y l hd
   have hm:=List.mem_of_getElem? hy
   obtain⟨pi,po,pp,ps,pb,pl⟩:=p
   rw[PredP.X.all,List.nodup_cons]at hnd
   rw[PredP.X.kids]at hy hm
   have hyn:y.all.Nodup:=flat_nodup pl.list (by rw[←all_list];exact hnd.2) y hm
   have hidn:pl.ids.Nodup:=ids_nodup pl hnd.2
   have hcy:ctxAt N0 gb U ns w k y (.into (.mk pi po pp ps pb pl) n c):=by
    obtain⟨_,hnm,hwd⟩:=h.self
    unfold nmX at hnm
    unfold wdX at hwd
    have hk:=ctx_kids h
    unfold ctxAt
    exact⟨(xsAt_iff pl).1 hk y hm,(nmXs_iff pl).1 hnm.2 y hm,(wdXs_iff pl).1 hwd.2 y hm,hy,hidn,h⟩
   exact ctx_X y _ hcy hyn q hq
  ·exact ctx_Xs l p c (n+1) (PredP.Xs.drop_cons hd) h hnd q hq
end
end
end Go.Proofs.YtpcmemcanpgadaaGreatDoor
