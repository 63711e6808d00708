import Derived.Test.YtpcmemcanpgadaaGreatDoorXBeh
import Derived.Test.YtpcmemcanpgadaaGreatDoorFltG
namespace Go.Proofs.YtpcmemcanpgadaaGreatDoor
open PredP (hide Str Rule bs)
section
open Go.RowKit
mutual
theorem parts_at {okN okA:Nat→Prop} {w:World} {k:Nat}:∀(x:PredP.X) (c:PredP.Ctx) (up:Option Nat),xAt okN okA w (some (up,k)) x→∀q,q∈PredP.partsX c x→∃up,xAt okN okA w (some (up,k)) q.1
 | .mk i o p s b l,c,up,h,q,hq=>by
  rw[PredP.partsX]at hq
  rcases List.mem_cons.1 hq with rfl | hq
  ·exact⟨_,h⟩
  ·unfold xAt at h
   obtain⟨_,_,_,_,_,_,_,_,_,_,_,hk⟩:=h
   exact parts_ats l _ _ _ _ hk q hq
theorem parts_ats {okN okA:Nat→Prop} {w:World} {k:Nat}:∀(l:PredP.Xs) (p:PredP.X) (c:PredP.Ctx) (n:Nat) (up:Option Nat),xsAt okN okA w (some (up,k)) l→∀q,q∈PredP.partsXs p c n l→∃up,xAt okN okA w (some (up,k)) q.1
 | .nil,_,_,_,_,_,q,hq=>by rw[PredP.partsXs]at hq;cases hq
 | .cons y l,p,c,n,up,h,q,hq=>by
  rw[PredP.partsXs]at hq
  unfold xsAt at h
  rcases List.mem_append.1 hq with hq | hq
  ·exact parts_at y _ _ h.1 q hq
  ·exact parts_ats l _ _ _ _ h.2 q hq
end
mutual
theorem nm_parts {ns:List Str}:∀(x:PredP.X) (c:PredP.Ctx),(∀q,q∈PredP.partsX c x→q.1.op=.name→q.1.s∈ns)→nmX ns x
 | .mk i o p s b l,c,h=>by
  unfold nmX
  rw[PredP.partsX]at h
  exact⟨fun ho=>h _ List.mem_cons_self ho,nm_partss l _ _ _ (fun q hq=>h q (List.mem_cons_of_mem _ hq))⟩
theorem nm_partss {ns:List Str}:∀(l:PredP.Xs) (p:PredP.X) (c:PredP.Ctx) (n:Nat),(∀q,q∈PredP.partsXs p c n l→q.1.op=.name→q.1.s∈ns)→nmXs ns l
 | .nil,_,_,_,_=>by unfold nmXs;trivial
 | .cons y l,p,c,n,h=>by
  unfold nmXs
  rw[PredP.partsXs]at h
  exact⟨nm_parts y _ (fun q hq=>h q (List.mem_append_left _ hq)),nm_partss l _ _ _ (fun q hq=>h q (List.mem_append_right _ hq))⟩
end
mutual
theorem nd_parts:∀(x:PredP.X) (c:PredP.Ctx),x.all.Nodup→∀q,q∈PredP.partsX c x→q.1.all.Nodup
 | .mk i o p s b l,c,h,q,hq=>by
  rw[PredP.partsX]at hq
  rcases List.mem_cons.1 hq with rfl | hq
  ·exact h
  ·rw[PredP.X.all,List.nodup_cons]at h
   exact nd_partss l _ _ _ h.2 q hq
theorem nd_partss:∀(l:PredP.Xs) (p:PredP.X) (c:PredP.Ctx) (n:Nat),l.all.Nodup→∀q,q∈PredP.partsXs p c n l→q.1.all.Nodup
 | .nil,_,_,_,_,q,hq=>by rw[PredP.partsXs]at hq;cases hq
 | .cons y l,p,c,n,h,q,hq=>by
  rw[PredP.partsXs]at hq
  rw[PredP.Xs.all,List.nodup_append]at h
  rcases List.mem_append.1 hq with hq | hq
  ·exact nd_parts y _ h.1 q hq
  ·exact nd_partss l _ _ _ h.2.1 q hq
end
theorem mem_allX {q:Nat×PredP.X×PredP.Ctx}:∀(l:List PredP.X) (k:Nat),q∈PredP.allX k l→∃i x,l[i]?=some x∧q.1=k+i∧q.2∈PredP.partsX .top x
 | [],_,h=>by simp[PredP.allX]at h
 | x::l,k,h=>by
  rw[PredP.allX]at h
  rcases List.mem_append.1 h with h | h
  ·obtain⟨y,hy,rfl⟩:=List.mem_map.1 h
   exact⟨0,x,rfl,rfl,hy⟩
  ·obtain⟨i,y,h1,h2,h3⟩:=mem_allX l (k+1) h
   exact⟨i+1,y,by simpa using h1,by omega,h3⟩
theorem in_allX {p:PredP.X×PredP.Ctx}:∀(l:List PredP.X) (k i:Nat) (x:PredP.X),l[i]?=some x→p∈PredP.partsX .top x→(k+i,p)∈PredP.allX k l
 | [],_,_,_,h,_=>by simp at h
 | y::l,k,0,x,h,hp=>by
  simp at h
  subst h
  rw[PredP.allX]
  exact List.mem_append_left _ (List.mem_map.2 ⟨p,hp,rfl⟩)
 | y::l,k,i+1,x,h,hp=>by
  rw[PredP.allX]
  refine List.mem_append_right _ ?_
  have:=in_allX l (k+1) i x (by simpa using h) hp
  rwa[show k+1+i=k+(i+1) by omega]at this
theorem all_names:∀(G:List Rule) (l:List PredP.X) (k:Nat),PredP.Trees G l→(PredP.allX k l).filterMap (fun q=>PredP.nmOf q.2)=G.flatMap (fun r=>PredP.namesE r.body)
 | [],l,_,h=>by rw[PredP.Trees]at h;subst h;simp[PredP.allX]
 | r::G,l,k,h=>by
  rw[PredP.Trees]at h
  obtain⟨x,l',rfl,hx,h'⟩:=h
  rw[PredP.allX,List.filterMap_append,List.flatMap_cons,all_names G l' (k+1) h',List.filterMap_map,←PredP.names_E r.body x .top hx]
  rfl
section
variable {N0 gb:Nat} {G:List Rule} {l:List PredP.X} {w:World}
theorem GT.part (h:GT N0 gb G l w) {q:Nat×PredP.X×PredP.Ctx} (hq:q∈PredP.allX 0 l):(∃up,xAt (okG N0 gb) (okG N0 gb) w (some (up,q.1)) q.2.1)∧q.1<(PredP.names G).length:=by
 obtain⟨i,x,h1,h2,h3⟩:=mem_allX l 0 hq
 have hi:i<l.length:=(List.getElem?_eq_some_iff.1 h1).1
 rw[h.tr.length]at hi
 rw[Nat.zero_add]at h2
 rw[h2]
 exact⟨parts_at x _ _ (h.xs i x h1) q.2 h3,by simpa[PredP.names] using hi⟩
theorem GT.names (h:GT N0 gb G l w) (hn:PredP.findNone G=none):∀x,x∈l→nmX (PredP.names G) x:=by
 intro x hx
 obtain⟨i,hi⟩:=List.getElem?_of_mem hx
 exact nm_parts x .top (fun q hq ho=>PredP.item_mem h.tr hn (0+i,q) (List.mem_filter.2 ⟨in_allX l 0 i x hi hq,by simp[ho]⟩))
theorem GT.ctx {U:List Str} (h:GT N0 gb G l w) (hn:PredP.findNone G=none) (hw:∀x,x∈l→wdX U x):∀q,q∈PredP.allX 0 l→ctxAt N0 gb U (PredP.names G) w q.1 q.2.1 q.2.2∧q.1<(PredP.names G).length∧shX q.2.1∧q.2.1.all.Nodup:=by
 intro q hq
 obtain⟨i,x,h1,h2,h3⟩:=mem_allX l 0 hq
 have hm:=List.mem_of_getElem? h1
 have hi:i<G.length:=by rw[←h.tr.length];exact(List.getElem?_eq_some_iff.1 h1).1
 have hnd:x.all.Nodup:=flat_nodup l h.nd x hm
 rw[Nat.zero_add]at h2
 rw[h2]
 refine⟨ctx_X x .top (by unfold ctxAt;exact⟨h.xs i x h1,h.names hn x hm,hw x hm⟩) hnd _ h3,by simpa[PredP.names] using hi,sh_parts x .top (sh_E _ _ (h.tr.at (List.getElem?_eq_getElem hi) h1)) _ h3,nd_parts x .top hnd _ h3⟩
end
def Tw (G:List Rule) (k:Nat):Prop:=PredP.findTwice [] G=PredP.findTwice ((PredP.names G).take k).reverse (G.drop k)
theorem Tw.zero (G:List Rule):Tw G 0:=by unfold Tw;rw[List.take_zero,List.drop_zero];rfl
theorem Tw.next {G:List Rule} {k:Nat} {r:Rule} (h:Tw G k) (hr:G[k]?=some r) (hn:r.name∉(PredP.names G).take k):Tw G (k+1):=by
 unfold Tw at *
 have hk:k<G.length:=(List.getElem?_eq_some_iff.1 hr).1
 have e:G.drop k=r::G.drop (k+1):=by rw[List.drop_eq_getElem_cons hk];congr 1;exact Option.some.inj ((List.getElem?_eq_getElem hk).symm.trans hr)
 rw[h,e,PredP.findTwice,if_neg (by simpa using hn)]
 have:(PredP.names G).take (k+1)=(PredP.names G).take k++[r.name]:=by
  rw[List.take_add_one];simp[PredP.names,hr]
 rw[this,List.reverse_append];rfl
theorem Tw.found {G:List Rule} {k:Nat} {r:Rule} (h:Tw G k) (hr:G[k]?=some r) (hn:r.name∈(PredP.names G).take k):PredP.findTwice [] G=some r:=by
 unfold Tw at h
 have hk:k<G.length:=(List.getElem?_eq_some_iff.1 hr).1
 have e:G.drop k=r::G.drop (k+1):=by rw[List.drop_eq_getElem_cons hk];congr 1;exact Option.some.inj ((List.getElem?_eq_getElem hk).symm.trans hr)
 rw[h,e,PredP.findTwice,if_pos (by simpa using hn)]
theorem Tw.end' {G:List Rule} {k:Nat} (h:Tw G k) (hk:G.length≤k):PredP.findTwice [] G=none:=by
 unfold Tw at h
 rw[h,List.drop_of_length_le hk];rfl
theorem ix_lt {ns:List Str} {k:Nat} {s:Str} (hk:ns[k]?=some s):∃j:Nat,ruleIx ns s=(j:Int)∧j≤k∧(j<k↔s∈ns.take k):=by
 obtain⟨j,h1,h2,h3⟩:=ruleIx_some (List.mem_of_getElem? hk)
 have hjk:j≤k:=by
  rcases Nat.lt_or_ge k j with h | h
  ·exact absurd (List.mem_of_getElem? (i:=k) (by rw[List.getElem?_take_of_lt h];exact hk)) h3
  ·exact h
 refine⟨j,h1,hjk,fun h=>List.mem_of_getElem? (i:=j) (by rw[List.getElem?_take_of_lt h];exact h2),fun h=>?_⟩
 rcases Nat.lt_or_ge j k with h' | h'
 ·exact h'
 ·have:j=k:=by omega
  subst this
  exact absurd h h3
def Nn (G:List Rule) (Q:List (Nat×PredP.X×PredP.Ctx)) (i:Nat):Prop:=PredP.findNone G=((Q.drop i).filterMap (fun q=>PredP.nmOf q.2)).find? (fun x=>!(PredP.names G).contains x.1)
theorem Nn.zero {G:List Rule} {l:List PredP.X} (ht:PredP.Trees G l):Nn G (PredP.allX 0 l) 0:=by unfold Nn;rw[List.drop_zero,all_names G l 0 ht];rfl
theorem drop_cons' {α:Type} {Q:List α} {i:Nat} {q:α} (hq:Q[i]?=some q):Q.drop i=q::Q.drop (i+1):=by
 have hk:i<Q.length:=(List.getElem?_eq_some_iff.1 hq).1
 rw[List.drop_eq_getElem_cons hk];congr 1;exact Option.some.inj ((List.getElem?_eq_getElem hk).symm.trans hq)
theorem Nn.skip {G:List Rule} {Q:List (Nat×PredP.X×PredP.Ctx)} {i:Nat} {q:Nat×PredP.X×PredP.Ctx} (h:Nn G Q i) (hq:Q[i]?=some q) (ho:q.2.1.op=.name→q.2.1.s∈PredP.names G):Nn G Q (i+1):=by
 unfold Nn at *
 rw[h,drop_cons' hq,List.filterMap_cons]
 unfold PredP.nmOf
 split
 ·rfl
 ·rename_i b hb
  split at hb
  ·cases hb
   rw[List.find?_cons_of_neg (by simpa using ho ‹_›)]
  ·cases hb
theorem Nn.found {G:List Rule} {Q:List (Nat×PredP.X×PredP.Ctx)} {i:Nat} {q:Nat×PredP.X×PredP.Ctx} (h:Nn G Q i) (hq:Q[i]?=some q) (ho:q.2.1.op=.name) (hs:q.2.1.s∉PredP.names G):PredP.findNone G=some (q.2.1.s,q.2.1.pos):=by
 unfold Nn at *
 rw[h,drop_cons' hq,List.filterMap_cons]
 simp only[PredP.nmOf,ho,if_true]
 rw[List.find?_cons_of_pos (by simpa using hs)]
theorem Nn.end' {G:List Rule} {Q:List (Nat×PredP.X×PredP.Ctx)} {i:Nat} (h:Nn G Q i) (hi:Q.length≤i):PredP.findNone G=none:=by
 unfold Nn at h
 rw[h,List.drop_of_length_le hi];rfl
def Us (G:List Rule) (k:Nat):Prop:=PredP.findUseless G=(G.drop k).find? (fun r=>!((PredP.ends G).contains r.name&&(PredP.come G).contains r.name))
theorem Us.zero (G:List Rule):Us G 0:=rfl
theorem Us.next {G:List Rule} {k:Nat} {r:Rule} (h:Us G k) (hr:G[k]?=some r) (hn:((PredP.ends G).contains r.name&&(PredP.come G).contains r.name)=true):Us G (k+1):=by
 unfold Us at *
 rw[h,drop_cons' hr,List.find?_cons_of_neg (by rw[hn];simp)]
theorem Us.found {G:List Rule} {k:Nat} {r:Rule} (h:Us G k) (hr:G[k]?=some r) (hn:((PredP.ends G).contains r.name&&(PredP.come G).contains r.name)=false):PredP.findUseless G=some r:=by
 unfold Us at *
 rw[h,drop_cons' hr,List.find?_cons_of_pos (by rw[hn];rfl)]
theorem Us.end' {G:List Rule} {k:Nat} (h:Us G k) (hk:G.length≤k):PredP.findUseless G=none:=by
 unfold Us at h
 rw[h,List.drop_of_length_le hk];rfl
end
section
open Go.RowKit
def Sets (N0 gb:Nat) (G:List Rule) (w:World):Prop :=
 ∃(U:List Str) (n:Nat) (bl:List Bool) (vf va:Nat→Value) (fl al:List (List Str)) (eb fb ab:Nat),(N0≤eb∧N0≤fb∧N0≤ab) ∧
  (w.cell? ⟨gb,3,none⟩=some (.slice (some ⟨eb,0,none⟩) n n)∧w.cell? ⟨gb,4,none⟩=some (.slice (some ⟨fb,0,none⟩) n n)∧w.cell? ⟨gb,5,none⟩=some (.slice (some ⟨ab,0,none⟩) n n)) ∧
  w.rowIs eb 4 n (fun j=>.bool (bl.getD j false))∧w.rowIs fb 27 n vf∧w.rowIs ab 27 n va∧(∀j,j<n→strs w (vf j) (fl.getD j []))∧(∀j,j<n→strs w (va j) (al.getD j [])) ∧
  (bl.length=n∧fl.length=n∧al.length=n∧(PredP.names G).length=n∧n≤12)∧(Ups U fl∧Ups U al∧U.length≤1000) ∧
  (∀m,kOf (PredP.names G) bl m=(PredP.nul G).contains m)∧(∀u m,hasOf (PredP.names G) fl u m=(PredP.fsts G u).contains m)∧∀u m,hasOf (PredP.names G) al u m=(PredP.afts G u).contains m
theorem Sets.ae {N0 gb:Nat} {G:List Rule} {l:List PredP.X} {w:World} (h:Sets N0 gb G w) (hT:GT N0 gb G l w):∃U bl fl al,AE N0 gb U (PredP.names G) bl fl al w∧(∀m,kOf (PredP.names G) bl m=(PredP.nul G).contains m)∧(∀u m,hasOf (PredP.names G) fl u m=(PredP.fsts G u).contains m)∧∀u m,hasOf (PredP.names G) al u m=(PredP.afts G u).contains m:=by
 obtain⟨U,n,bl,vf,va,fl,al,eb,fb,ab,_,⟨g3,g4,g5⟩,re,rf,ra,sf,sa,⟨lb,lf,la,ln,n12⟩,⟨uf,ua,hU⟩,hk,hf,ha⟩:=h
 exact⟨U,bl,fl,al,⟨⟨hT.gm,⟨_,g3,row_bools re lb n12⟩,⟨_,g4,row_lists rf sf lf n12⟩,by rw[ln,lb],by rw[ln,lf],uf,hU⟩,⟨_,g5,row_lists ra sa la n12⟩,by rw[ln,la],ua⟩,hk,hf,ha⟩
theorem Sets.off {N0 gb b:Nat} {G:List Rule} {w w':World} (h:Sets N0 gb G w) (hg:gb<w.heap.size) (hb:But b w w') (h1:b<N0) (h2:b≠gb) (hs:∀cs f,w.heap[b]?≠some (.cells cs 9 f)):Sets N0 gb G w':=by
 obtain⟨U,n,bl,vf,va,fl,al,eb,fb,ab,⟨h3,h4,h5⟩,⟨g3,g4,g5⟩,re,rf,ra,sf,sa,ls,us,hk⟩:=h
 have q:∀k,w'.cell? ⟨gb,k,none⟩=w.cell? ⟨gb,k,none⟩:=fun k=>hb.cell hg (fun e=>h2 e.symm)
 have hst:∀v L,strs w v L→strs w' v L:=fun v L h=>h.carry hb.size (fun x hl hx=>hb.block x hl (fun e=>by
  obtain⟨cs,f',hx⟩:=hx
  rw[e]at hx
  exact hs _ _ hx))
 exact⟨U,n,bl,vf,va,fl,al,eb,fb,ab,⟨h3,h4,h5⟩,⟨(q 3).trans g3,(q 4).trans g4,(q 5).trans g5⟩,re.of_block (hb.block _ re.lt (by omega)),rf.of_block (hb.block _ rf.lt (by omega)),ra.of_block (hb.block _ ra.lt (by omega)),fun j hj=>hst _ _ (sf j hj),fun j hj=>hst _ _ (sa j hj),ls,us,hk⟩
theorem Sets.below {N0 gb:Nat} {G:List Rule} {w w':World} (h:Sets N0 gb G w) (hg:gb<w.heap.size) (hb:Below w.heap.size w w'):Sets N0 gb G w':=by
 obtain⟨U,n,bl,vf,va,fl,al,eb,fb,ab,hn,⟨g3,g4,g5⟩,re,rf,ra,sf,sa,ls,us,hk⟩:=h
 have q:=fun k=>hb.cell (p:=⟨gb,k,none⟩) hg
 exact⟨U,n,bl,vf,va,fl,al,eb,fb,ab,hn,⟨(q 3).trans g3,(q 4).trans g4,(q 5).trans g5⟩,re.of_block (hb.block _ re.lt),rf.of_block (hb.block _ rf.lt),ra.of_block (hb.block _ ra.lt),fun j hj=>(sf j hj).below hb,fun j hj=>(sa j hj).below hb,ls,us,hk⟩
def LawPost (N0 gb:Nat) (G:List Rule) (w:World) (r:PredP.Res) (e:Ending) (w':World):Prop :=
 ∃(W A:Nat) (c:ByteArray),e=.returned (fltV W A c)∧(W:Int)=whatOf r∧A=atOf r∧bs c=strOf r∧But gb w w'∧(∀k,k<3→w'.cell? ⟨gb,k,none⟩=w.cell? ⟨gb,k,none⟩)∧∀G',r=.ok G'→Sets N0 gb G w'
section
variable {G:List Rule}
theorem chk_empty (h:G.length=0):PredP.check G=.empty:=by unfold PredP.check;rw[if_pos h]
theorem chk_many (h:12<G.length):PredP.check G=.many:=by unfold PredP.check;rw[if_neg (by omega),if_pos h]
theorem chk_twice {r:Rule} (h0:G.length≠0) (h:G.length≤12) (h1:PredP.findTwice [] G=some r):PredP.check G=.twice r.pos r.name:=by unfold PredP.check;rw[if_neg h0,if_neg (by omega),h1]
theorem chk_none {x:Str×Nat} (h0:G.length≠0) (h:G.length≤12) (h1:PredP.findTwice [] G=none) (h2:PredP.findNone G=some x):PredP.check G=.none x.2 x.1:=by unfold PredP.check;rw[if_neg h0,if_neg (by omega),h1,h2]
theorem chk_useless {r:Rule} (h0:G.length≠0) (h:G.length≤12) (h1:PredP.findTwice [] G=none) (h2:PredP.findNone G=none) (h3:PredP.findUseless G=some r):PredP.check G=.useless r.pos r.name:=by unfold PredP.check;rw[if_neg h0,if_neg (by omega),h1,h2,h3]
theorem chk_clash {p:Nat} {s:Str} (h0:G.length≠0) (h:G.length≤12) (h1:PredP.findTwice [] G=none) (h2:PredP.findNone G=none) (h3:PredP.findUseless G=none) (h4:PredP.firstClash (PredP.cands G) (PredP.places G)=some (p,s)):PredP.check G=.clash p s:=by unfold PredP.check;rw[if_neg h0,if_neg (by omega),h1,h2,h3,h4]
theorem chk_ok (h0:G.length≠0) (h:G.length≤12) (h1:PredP.findTwice [] G=none) (h2:PredP.findNone G=none) (h3:PredP.findUseless G=none) (h4:PredP.firstClash (PredP.cands G) (PredP.places G)=none):PredP.check G=.ok G:=by unfold PredP.check;rw[if_neg h0,if_neg (by omega),h1,h2,h3,h4]
end
theorem row_set {wr:World} {b t n:Nat} {bl:List Bool} (h:wr.rowIs b t n (fun j=>.bool (bl.getD j false))) (hl:bl.length=n) (i:Nat) (v:Bool):(wr.setCell ⟨b,i,none⟩ (.bool v)).rowIs b t n (fun j=>.bool ((bl.set i v).getD j false)):=by
 refine(h.set i (.bool v)).congr (fun j hj=>?_)
 show(if j=i then Value.bool v else .bool (bl.getD j false))=.bool ((bl.set i v).getD j false)
 by_cases e:j=i
 ·subst e
  rw[if_pos rfl,List.getD_eq_getElem?_getD,List.getElem?_set_self (by omega)]
  rfl
 ·rw[if_neg e,List.getD_eq_getElem?_getD,List.getD_eq_getElem?_getD,List.getElem?_set_ne (fun x=>e x.symm)]
theorem row_made (w:World) (n:Nat):(w.alloc (.cells (madeCells #[.bool false] n) 4)).rowIs w.heap.size 4 n (fun j=>.bool ((List.replicate n false).getD j false)) :=
 (World.rowIs_made w (.bool false) n 4).congr (fun j hj=>by simp[List.getD_eq_getElem?_getD,hj])
structure LS (w:World) (n eb cb:Nat) (bl blc:List Bool) (wr:World):Prop where
 low:Below w.heap.size w wr
 res:∃f,wr.rowIs w.heap.size 55 3 f
 e:wr.rowIs eb 4 n (fun j=>.bool (bl.getD j false))
 c:wr.rowIs cb 4 n (fun j=>.bool (blc.getD j false))
 he:w.heap.size<eb
 hc:w.heap.size<cb
 ne:eb≠cb
 lb:bl.length=n
 lc:blc.length=n
theorem LS.below {w:World} {n eb cb:Nat} {bl blc:List Bool} {wr w':World} (h:LS w n eb cb bl blc wr) (hb:Below wr.heap.size wr w'):LS w n eb cb bl blc w':=by
 obtain⟨f,hr⟩:=h.res
 exact⟨Below.all h.low hb,⟨f,hr.of_block (hb.block _ hr.lt)⟩,h.e.of_block (hb.block _ h.e.lt),h.c.of_block (hb.block _ h.c.lt),h.he,h.hc,h.ne,h.lb,h.lc⟩
theorem LS.setC {w:World} {n eb cb:Nat} {bl blc:List Bool} {wr:World} (h:LS w n eb cb bl blc wr) (i:Nat) (v:Bool):LS w n eb cb bl (blc.set i v) (wr.setCell ⟨cb,i,none⟩ (.bool v)):=by
 obtain⟨f,hr⟩:=h.res
 have hc:=h.hc
 have hne:=h.ne
 exact⟨h.low.setCell (show w.heap.size≤cb by omega) _,⟨f,hr.setOther (show w.heap.size≠cb by omega) _⟩,h.e.setOther (show eb≠cb from hne) _,row_set h.c h.lc i v,h.he,h.hc,h.ne,h.lb,by simpa using h.lc⟩
structure LN (w:World) (n eb cb nb:Nat) (bl blc bl':List Bool) (wr:World):Prop where
 s:LS w n eb cb bl blc wr
 x:wr.rowIs nb 4 n (fun j=>.bool (bl'.getD j false))
 hn:w.heap.size<nb
 n1:nb≠eb
 n2:nb≠cb
 ln:bl'.length=n
theorem LN.zero {w:World} {n eb cb:Nat} {bl blc:List Bool} {wr:World} (h:LS w n eb cb bl blc wr):LN w n eb cb wr.heap.size bl blc (List.replicate n false) (wr.alloc (.cells (madeCells #[.bool false] n) 4)):=by
 have h1:=h.e.lt
 have h2:=h.c.lt
 have h3:=h.he
 exact⟨h.below ((Below.refl _ _).alloc (Nat.le_refl _) _),row_made wr n,by omega,by omega,by omega,by simp⟩
theorem LN.below {w:World} {n eb cb nb:Nat} {bl blc bl':List Bool} {wr w':World} (h:LN w n eb cb nb bl blc bl' wr) (hb:Below wr.heap.size wr w'):LN w n eb cb nb bl blc bl' w' :=
 ⟨h.s.below hb,h.x.of_block (hb.block _ h.x.lt),h.hn,h.n1,h.n2,h.ln⟩
theorem LN.set {w:World} {n eb cb nb:Nat} {bl blc bl':List Bool} {wr:World} (h:LN w n eb cb nb bl blc bl' wr) (i:Nat) (v:Bool):LN w n eb cb nb bl blc (bl'.set i v) (wr.setCell ⟨nb,i,none⟩ (.bool v)):=by
 obtain⟨f,hr⟩:=h.s.res
 have h1:=h.hn
 have h2:=h.n1
 have h3:=h.n2
 have hs:=h.s
 exact⟨⟨hs.low.setCell (show w.heap.size≤nb by omega) _,⟨f,hr.setOther (show w.heap.size≠nb by omega) _⟩,hs.e.setOther (show eb≠nb by omega) _,hs.c.setOther (show cb≠nb by omega) _,hs.he,hs.hc,hs.ne,hs.lb,hs.lc⟩,row_set h.x h.ln i v,h.hn,h.n1,h.n2,by simpa using h.ln⟩
theorem LN.out {w:World} {n eb cb nb:Nat} {bl blc bl':List Bool} {wr:World} (h:LN w n eb cb nb bl blc bl' wr):LS w n nb cb bl' blc wr:=⟨h.s.low,h.s.res,h.x,h.s.c,h.hn,h.s.hc,h.n2,h.ln,h.s.lc⟩
def Ej (G:List Rule) (j:Nat) (bl:List Bool):Prop:=∀m,kOf (PredP.names G) bl m=(PredP.rounds (PredP.names G) (PredP.endStep G) j).contains m
def Ei (G:List Rule) (l:List PredP.X) (bl:List Bool) (i:Nat) (bl':List Bool):Prop:=∀k x,k<i→l[k]?=some x→bl'[k]?=some (PredP.derX true (kOf (PredP.names G) bl) x)
theorem Ej.zero (G:List Rule) (n:Nat):Ej G 0 (List.replicate n false):=fun m=>by rw[kOf_none];rfl
theorem Ei.step {G:List Rule} {l:List PredP.X} {bl bl':List Bool} {i:Nat} {x:PredP.X} (h:Ei G l bl i bl') (hx:l[i]?=some x) (hl:i<bl'.length):Ei G l bl (i+1) (bl'.set i (PredP.derX true (kOf (PredP.names G) bl) x)):=by
 intro k y hk hy
 by_cases e:k=i
 ·subst e
  rw[hx]at hy
  cases hy
  rw[List.getElem?_set_self hl]
 ·rw[List.getElem?_set_ne (fun x=>e x.symm)]
  exact h k y (by omega) hy
theorem kOf_out:∀(ns:List Str) (bl:List Bool) (m:Str),m∉ns→kOf ns bl m=false
 | [],_,_,_=>by simp[kOf]
 | _::_,[],_,_=>by simp[kOf]
 | n::ns,b::bl,m,h=>by
  rw[List.mem_cons,not_or]at h
  rw[kOf,if_neg (by simpa using fun e=>h.1 e.symm)]
  exact kOf_out ns bl m h.2
theorem Ej.next {G:List Rule} {l:List PredP.X} (ht:PredP.Trees G l) (hnd:(PredP.names G).Nodup) {j i:Nat} {bl bl':List Bool} (h:Ej G j bl) (he:Ei G l bl i bl') (hi:G.length≤i) (hl:bl'.length=G.length):Ej G (j+1) bl':=by
 intro m
 have hK:kOf (PredP.names G) bl=(PredP.rounds (PredP.names G) (PredP.endStep G) j).contains:=funext h
 by_cases hm:m∈PredP.names G
 ·obtain⟨k,hk⟩:=List.getElem?_of_mem hm
  have hkl:k<G.length:=by have:=(List.getElem?_eq_some_iff.1 hk).1;simpa[PredP.names] using this
  obtain⟨x,hx⟩:∃x,l[k]?=some x:=⟨l[k]'(by rw[ht.length];exact hkl),List.getElem?_eq_getElem _⟩
  obtain⟨n,hn,_,hes,_⟩:=steps_at ht hnd hx
  rw[hk]at hn
  cases hn
  have hnot:m∉(PredP.names G).take k:=fun hmm=>by
   obtain⟨q,hq⟩:=List.getElem?_of_mem hmm
   have hqk:q<k:=by have:=(List.getElem?_eq_some_iff.1 hq).1;rw[List.length_take]at this;omega
   rw[List.getElem?_take_of_lt hqk]at hq
   have:=(List.getElem?_inj (by simpa[PredP.names] using Nat.lt_trans hqk hkl) hnd).1 (hq.trans hk.symm)
   omega
  have e1:=kOf_get (PredP.names G) bl' k hk hnot (by simp[PredP.names,hl])
  rw[he k x (by omega) hx]at e1
  have e2:=Option.some.inj e1
  rw[←e2,←hes,hK,Bool.eq_iff_iff]
  constructor
  ·intro h1
   simp only[PredP.rounds,PredP.next,List.contains_iff_mem,List.mem_filter,Bool.or_eq_true]
   exact⟨hm,.inl h1⟩
  ·intro h1
   exact PredP.rounds_told (PredP.endStep_mono G) (by simpa using h1)
 ·rw[kOf_out _ _ _ hm]
  symm
  rw[Bool.eq_false_iff]
  exact fun h1=>hm (PredP.rounds_sub _ _ _ (by simpa using h1))
theorem Ej.end' {G:List Rule} {bl:List Bool} (h:Ej G G.length bl) (m:Str):kOf (PredP.names G) bl m=(PredP.ends G).contains m:=by
 rw[h m]
 have:(PredP.names G).length=G.length:=by simp[PredP.names]
 unfold PredP.ends PredP.least
 rw[this]
def Cj (G:List Rule) (Q:List (Nat×PredP.X×PredP.Ctx)) (j i:Nat) (blc:List Bool):Prop :=
 kOf (PredP.names G) blc ((PredP.names G).getD 0 [])=true∧PredP.GSP (PredP.names G) (PredP.comeStep G) (fun q=>q.2.1.s) (PredP.comeV (PredP.names G)) j ((Q.take i).filter fun q=>q.2.1.op==.name) (kOf (PredP.names G) blc)
section
variable {G:List Rule} {l:List PredP.X}
theorem Cj.zero (ht:PredP.Trees G l) (hn:PredP.findNone G=none) (hnd:(PredP.names G).Nodup) (h0:G.length≠0):Cj G (PredP.allX 0 l) 0 0 ((List.replicate G.length false).set 0 true):=by
 have hl:(PredP.names G).length=G.length:=by simp[PredP.names]
 obtain⟨a,ha⟩:∃a,(PredP.names G)[0]?=some a:=⟨(PredP.names G)[0]'(by omega),List.getElem?_eq_getElem _⟩
 obtain⟨q1,q2⟩:=kOf_set (PredP.names G) (List.replicate G.length false) 0 a true hnd (by simp[hl]) ha
 refine⟨by rw[List.getD_eq_getElem?_getD,ha];exact q2,PredP.GSP.zero (PredP.come_items ht hn) fun m hm=>?_⟩
 by_cases e:m=a
 ·subst e
  exact⟨List.mem_of_getElem? ha,by rw[List.head?_eq_getElem?,ha];simp⟩
 ·rw[q1 m e,kOf_none]at hm;cases hm
theorem Cj.skip {Q:List (Nat×PredP.X×PredP.Ctx)} {j i:Nat} {q:Nat×PredP.X×PredP.Ctx} {blc:List Bool} (h:Cj G Q j i blc) (hq:Q[i]?=some q) (hop:q.2.1.op≠.name):Cj G Q j (i+1) blc:=by
 refine⟨h.1,?_⟩
 have e:(Q.take (i+1)).filter (fun q=>q.2.1.op==.name)=(Q.take i).filter (fun q=>q.2.1.op==.name):=by
  rw[List.take_add_one,hq,List.filter_append]
  simp[hop]
 rw[e];exact h.2
theorem Cj.step (ht:PredP.Trees G l) (hn:PredP.findNone G=none) {j i:Nat} {q:Nat×PredP.X×PredP.Ctx} {blc blc':List Bool} (h:Cj G (PredP.allX 0 l) j i blc) (hq:(PredP.allX 0 l)[i]?=some q) (hop:q.2.1.op=.name)
  (hle:∀m,kOf (PredP.names G) blc m=true→kOf (PredP.names G) blc' m=true) (h1:kOf (PredP.names G) blc ((PredP.names G).getD q.1 [])=true→kOf (PredP.names G) blc' q.2.1.s=true)
  (h2:∀m,kOf (PredP.names G) blc' m=true→kOf (PredP.names G) blc m=true∨(m=q.2.1.s∧kOf (PredP.names G) blc ((PredP.names G).getD q.1 [])=true)):Cj G (PredP.allX 0 l) j (i+1) blc':=by
 refine⟨hle _ h.1,?_⟩
 have e:((PredP.allX 0 l).take (i+1)).filter (fun q=>q.2.1.op==.name)=((PredP.allX 0 l).take i).filter (fun q=>q.2.1.op==.name)++[q]:=by
  rw[List.take_add_one,hq,List.filter_append]
  simp[hop]
 rw[e]
 exact h.2.more (PredP.come_items ht hn) (List.mem_filter.2 ⟨List.mem_of_getElem? hq,by simp[hop]⟩) hle h1 h2
theorem Cj.next (ht:PredP.Trees G l) (hn:PredP.findNone G=none) {j i:Nat} {blc:List Bool} (h:Cj G (PredP.allX 0 l) j i blc) (hi:(PredP.allX 0 l).length≤i):Cj G (PredP.allX 0 l) (j+1) 0 blc:=by
 refine⟨h.1,?_⟩
 have h2:=h.2
 rw[List.take_of_length_le hi]at h2
 refine h2.next (PredP.come_items ht hn) (fun m hm hb=>?_)
 rw[beq_iff_eq]at hb
 have:(PredP.names G).getD 0 []=m:=by rw[List.getD_eq_getElem?_getD,←List.head?_eq_getElem?,hb];rfl
 rw[←this];exact h.1
theorem Cj.end' {Q:List (Nat×PredP.X×PredP.Ctx)} {i:Nat} {blc:List Bool} (h:Cj G Q G.length i blc) (m:Str):kOf (PredP.names G) blc m=(PredP.come G).contains m:=by
 have h2:=h.2
 rw[show G.length=(PredP.names G).length by simp[PredP.names]]at h2
 exact h2.end m
theorem kOf_at {ns:List Str} {bl:List Bool} (hnd:ns.Nodup) (hl:ns.length=bl.length) {k:Nat} (hk:k<ns.length):bl[k]?=some (kOf ns bl (ns.getD k [])):=by
 obtain⟨n,hn⟩:∃n,ns[k]?=some n:=⟨ns[k],List.getElem?_eq_getElem hk⟩
 have hnot:n∉ns.take k:=fun hm=>by
  obtain⟨j,hj⟩:=List.getElem?_of_mem hm
  have hjk:j<k:=by have:=(List.getElem?_eq_some_iff.1 hj).1;rw[List.length_take]at this;omega
  rw[List.getElem?_take_of_lt hjk]at hj
  have:=(List.getElem?_inj (by omega) hnd).1 (hj.trans hn.symm)
  omega
 rw[List.getD_eq_getElem?_getD,hn]
 exact kOf_get ns bl k hn hnot hl
end
end
end Go.Proofs.YtpcmemcanpgadaaGreatDoor
