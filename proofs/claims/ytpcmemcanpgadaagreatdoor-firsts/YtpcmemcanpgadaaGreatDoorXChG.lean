import Derived.Test.YtpcmemcanpgadaaGreatDoorXRowAG
import Derived.Test.YtpcmemcanpgadaaGreatDoorXRow
import Derived.Deep.Cut
set_option maxHeartbeats 1000000
set_option maxRecDepth 100000
namespace Go.Proofs.YtpcmemcanpgadaaGreatDoor
open PredP (hide Str Rule bs)
section
open Go.RowKit
def tailF (l:Str) (m d:Nat) (t:PredP.Tok):PredP.Out PredP.Rows:=if t.kind=124 then PredP.expF l m d t.pos (PredP.tokFrom l t.to) else .ok .nil t
theorem expF_tail {l:Str} {m d bar:Nat} {t t':PredP.Tok} {r:PredP.Parts} (h:PredP.rowF l m d t=.ok r t'):PredP.expF l (m+1) d bar t=PredP.preE (.cons bar r .nil) (tailF l m d t'):=by
 unfold tailF
 split
 ·rename_i hk;exact PredP.expF_more h hk
 ·rename_i hk;rw[PredP.expF_last h hk];rfl
theorem own_apart {w:World} {b b' n n':Nat} {e e':TypeId} {v v':Value} {xs xs':List Value} (h:w.ownsRow b e 1 v n xs) (h':w.ownsRow b' e' 1 v' n' xs') (he:e≠e') (g:Nat) (hg:v.ownBlock=some g):v'.ownBlock≠some g:=by
 intro hg'
 rcases h.2 with ⟨rfl,_⟩ | ⟨g1,c1,k1,rfl,_,e1,_⟩
 ·cases hg
 ·rcases h'.2 with ⟨rfl,_⟩ | ⟨g2,c2,k2,rfl,_,e2,_⟩
  ·cases hg'
  ·cases hg
   cases hg'
   rw[e1]at e2
   injection e2 with e2
   injection e2 with _ e2 _
   exact he e2
theorem own_same {w w':World} {base e size n:Nat} {v:Value} {xs:List Value} (h:w.ownsRow base e size v n xs) (hb:∀g,v.ownBlock=some g→w'.heap[g]?=w.heap[g]?):w'.ownsRow base e size v n xs:=by
 refine⟨h.1,?_⟩
 rcases h.2 with hn | ⟨g,cap,cur,rfl,h1,h2,h3⟩
 ·exact .inl hn
 ·exact .inr ⟨g,cap,cur,rfl,h1,(hb g rfl).trans h2,h3⟩
section
variable (n bx:Nat) (vL vB:Value) (wr:World)
def kidN (b:Nat):Prop:=n≤b∧b≠bx∧some b≠vL.ownBlock∧some b≠vB.ownBlock
def kidA (b:Nat):Prop:=(n≤b∧noExp wr b)∧some b≠vL.ownBlock∧some b≠vB.ownBlock
def kidsAt (l:PredP.Xs):Prop:=xsAt (kidN n bx vL vB) (kidA n vL vB wr) wr none l
end
theorem kids_carry {n bx:Nat} {vL vB vL' vB':Value} {wr w3:World} {cs:Array Value} {f:Nat×Nat} (hx:wr.heap[bx]?=some (.cells cs 132 f)) (hs:wr.heap.size≤w3.heap.size)
  (hb:∀b,n≤b→b<wr.heap.size→b≠bx→some b≠vL.ownBlock→some b≠vB.ownBlock→w3.heap[b]?=wr.heap[b]?)
  (hL:∀b,b<wr.heap.size→some b≠vL.ownBlock→some b≠vL'.ownBlock) (hB:∀b,b<wr.heap.size→some b≠vB.ownBlock→some b≠vB'.ownBlock) (l:PredP.Xs) (h:kidsAt n bx vL vB wr l):kidsAt n bx vL' vB' w3 l:=by
 refine xsAt.carry hs ?_ ?_ l none h
 ·rintro b ⟨h1,h2,h3,h4⟩ hl
  exact⟨⟨h1,h2,hL b hl h3,hB b hl h4⟩,hb b h1 hl h2 h3 h4⟩
 ·rintro b ⟨⟨h1,h2⟩,h3,h4⟩ hl
  have hne:b≠bx:=fun e=>by subst e;exact h2 _ _ hx
  have e:=hb b h1 hl hne h3 h4
  exact⟨⟨⟨h1,h2.same e⟩,hL b hl h3,hB b hl h4⟩,e⟩
theorem kids_snoc {n n0 bx:Nat} {vL vB:Value} {wr:World} {x:PredP.X} {l:PredP.Xs} (hx:NewX n0 wr x) (h:kidsAt n bx vL vB wr l) (hn:n≤n0) (hbx:bx<n0) (hL:∀g,vL.ownBlock=some g→g<n0) (hB:∀g,vB.ownBlock=some g→g<n0):kidsAt n bx vL vB wr (l.snoc x):=by
 refine xsAt.snoc ?_ l h
 refine xAt.carry (Nat.le_refl _) ?_ ?_ x none hx.at'
 ·intro b hb _
  exact⟨⟨by omega,by omega,fun e=>by have:=hL b e.symm;omega,fun e=>by have:=hB b e.symm;omega⟩,rfl⟩
 ·rintro b ⟨hb,hn'⟩ _
  exact⟨⟨⟨by omega,hn'⟩,fun e=>by have:=hL b e.symm;omega,fun e=>by have:=hB b e.symm;omega⟩,rfl⟩
structure XCh (r g cap:Nat) (s:ByteArray) (d:Nat) (w:World) (bx pX:Nat) (wr:World) (what pos k:Nat) (t:PredP.Tok) (ids bars:List Nat) (vL vB:Value):Prop where
 rd:XRd r g cap s k t d what pos wr
 but:But r w wr
 ge:w.heap.size≤bx
 xb:wr.heap[bx]?=some (expO .bar pX [] vL vB (.pointer none) 0 0)
 ownL:wr.ownsRow w.heap.size 83 1 vL ids.length (ptrC ids)
 ownB:wr.ownsRow w.heap.size 3 1 vB bars.length (intC bars)
 idge:∀i,i∈ids→w.heap.size≤i
theorem XCh.lt {r g cap:Nat} {s:ByteArray} {d:Nat} {w:World} {bx pX:Nat} {wr:World} {what pos k:Nat} {t:PredP.Tok} {ids bars:List Nat} {vL vB:Value} (h:XCh r g cap s d w bx pX wr what pos k t ids bars vL vB):bx<wr.heap.size:=(Array.getElem?_eq_some_iff.1 h.xb).1
theorem XCh.noL {r g cap:Nat} {s:ByteArray} {d:Nat} {w:World} {bx pX:Nat} {wr:World} {what pos k:Nat} {t:PredP.Tok} {ids bars:List Nat} {vL vB:Value} (h:XCh r g cap s d w bx pX wr what pos k t ids bars vL vB):vL.ownBlock≠some bx:=fun e=>own_noExp h.ownL (by decide) e _ _ h.xb
theorem XCh.noB {r g cap:Nat} {s:ByteArray} {d:Nat} {w:World} {bx pX:Nat} {wr:World} {what pos k:Nat} {t:PredP.Tok} {ids bars:List Nat} {vL vB:Value} (h:XCh r g cap s d w bx pX wr what pos k t ids bars vL vB):vB.ownBlock≠some bx:=fun e=>own_noExp h.ownB (by decide) e _ _ h.xb
theorem XCh.through {r g cap:Nat} {s:ByteArray} {d:Nat} {w:World} {bx pX:Nat} {wr:World} {what pos k:Nat} {t:PredP.Tok} {ids bars:List Nat} {vL vB:Value} (h:XCh r g cap s d w bx pX wr what pos k t ids bars vL vB) (hr:r<w.heap.size)
  {w':World} {what' pos' k':Nat} {t':PredP.Tok} (hb:But r wr w') (hrd:XRd r g cap s k' t' d what' pos' w'):XCh r g cap s d w bx pX w' what' pos' k' t' ids bars vL vB∧∀l,kidsAt w.heap.size bx vL vB wr l→kidsAt w.heap.size bx vL vB w' l:=by
 have hge:=h.ge
 refine⟨⟨hrd,h.but.trans hb,h.ge,(hb.block bx h.lt (by omega)).trans h.xb,h.ownL.kept hb.grown (.inr fun e=>by have:=h.ownL.lt r e;omega),h.ownB.kept hb.grown (.inr fun e=>by have:=h.ownB.lt r e;omega),h.idge⟩,?_⟩
 exact kids_carry h.xb hb.size (fun b h1 h2 _ _ _=>hb.block b h2 (by omega)) (fun _ _ h=>h) (fun _ _ h=>h)
theorem XCh.bar {r g cap:Nat} {s:ByteArray} {d:Nat} {w:World} {bx pX:Nat} {wr:World} {what pos k:Nat} {t:PredP.Tok} {ids bars:List Nat} {vL vB:Value} (h:XCh r g cap s d w bx pX wr what pos k t ids bars vL vB) (hr:r<w.heap.size) (hg0:g<w.heap.size)
  {W w2 w3:World} {vB':Value} {q:Nat} (hb:Below wr.heap.size wr W) (hgrow:W.grownBy w2 vB.ownBlock) (hown:w2.ownsRow w.heap.size 3 1 vB' (bars.length+1) (intC bars++[.int .i64 (q:Int)]))
  (hloc:vB'.ownBlock=vB.ownBlock∨vB'.ownBlock=some W.heap.size) (hw3:w3=w2.setCell ⟨bx,4,none⟩ vB') :
  XCh r g cap s d w bx pX w3 what pos k t ids (bars++[q]) vL vB'∧∀l,kidsAt w.heap.size bx vL vB wr l→kidsAt w.heap.size bx vL vB' w3 l:=by
 have hge:=h.ge
 have hsz:=h.but.size
 have hbx:=h.lt
 have hWs:=hb.size
 have hgs:=hgrow.size
 have hltB:=h.ownB.lt
 have hset:But bx w2 w3:=by rw[hw3];exact(But.refl bx w2).setCell rfl _
 have hblk:∀b,b<wr.heap.size→some b≠vB.ownBlock→b≠bx→w3.heap[b]?=wr.heap[b]?:=fun b h1 h2 h3=>((hset.block b (by omega) h3).trans (hgrow.block b (by omega) h2)).trans (hb.block b h1)
 have hrow:∀b,b<w.heap.size→some b≠vB.ownBlock:=fun b h1 e=>by have:=(hltB b e.symm).1;omega
 have hx2:w2.heap[bx]?=some (expO .bar pX [] vL vB (.pointer none) 0 0):=((hgrow.block bx (by omega) (fun e=>h.noB e.symm)).trans (hb.block bx hbx)).trans h.xb
 have hvb':vB'.ownBlock≠some bx:=fun e=>by
  rcases hloc with q | q
  ·rw[q]at e;exact h.noB e
  ·rw[q]at e;simp at e;omega
 have hapart:=own_apart h.ownL h.ownB (by decide)
 refine⟨⟨?_,?_,h.ge,?_,?_,?_,h.idge⟩,?_⟩
 ·rw[hw3]
  exact((h.rd.below hb).butOf hgrow (hrow r hr) (hrow g hg0)).other (p:=⟨bx,4,none⟩) (by simp;omega) (by simp;omega) _
 ·refine⟨hset.os.trans (hgrow.os.trans (hb.os.trans h.but.os)),hset.tape.trans (hgrow.tape.trans (hb.tape.trans h.but.tape)),hset.output.trans (hgrow.output.trans (hb.output.trans h.but.output)),by have:=hset.size;omega,fun b h1 h2=>?_⟩
  rw[hblk b (by omega) (hrow b h1) (by omega)]
  exact h.but.block b h1 h2
 ·rw[hw3,setCell_block hx2]
  rfl
 ·exact own_same h.ownL (fun b hb'=>hblk b (h.ownL.lt b hb').2 (fun e=>hapart b hb' e.symm) (fun e=>h.noL (by rw[hb',e])))
 ·have:=hown.kept hset.grown (.inr hvb')
  unfold intC at this ⊢
  simpa using this
 ·exact kids_carry h.xb (by have:=hset.size;omega) (fun b _ h2 h3 _ h5=>hblk b h2 h5 h3) (fun _ _ h=>h) (fun b h1 h2 e=>by
   rcases hloc with q | q
   ·rw[q]at e;exact h2 e
   ·rw[q]at e;simp at e;omega)
theorem XCh.kid {r g cap:Nat} {s:ByteArray} {d:Nat} {w:World} {bx pX:Nat} {wr:World} {what pos k:Nat} {t:PredP.Tok} {ids bars:List Nat} {vL vB:Value} (h:XCh r g cap s d w bx pX wr what pos k t ids bars vL vB) (hr:r<w.heap.size) (hg0:g<w.heap.size)
  {W w2 w3:World} {vL':Value} {i:Nat} (hb:Below wr.heap.size wr W) (hgrow:W.grownBy w2 vL.ownBlock) (hown:w2.ownsRow w.heap.size 83 1 vL' (ids.length+1) (ptrC ids++[.pointer (some ⟨i,0,none⟩)]))
  (hloc:vL'.ownBlock=vL.ownBlock∨vL'.ownBlock=some W.heap.size) (hi:w.heap.size≤i) (hw3:w3=w2.setCell ⟨bx,3,none⟩ vL') :
  XCh r g cap s d w bx pX w3 what pos k t (ids++[i]) bars vL' vB∧∀l,kidsAt w.heap.size bx vL vB wr l→kidsAt w.heap.size bx vL' vB w3 l:=by
 have hge:=h.ge
 have hsz:=h.but.size
 have hbx:=h.lt
 have hWs:=hb.size
 have hgs:=hgrow.size
 have hltL:=h.ownL.lt
 have hset:But bx w2 w3:=by rw[hw3];exact(But.refl bx w2).setCell rfl _
 have hblk:∀b,b<wr.heap.size→some b≠vL.ownBlock→b≠bx→w3.heap[b]?=wr.heap[b]?:=fun b h1 h2 h3=>((hset.block b (by omega) h3).trans (hgrow.block b (by omega) h2)).trans (hb.block b h1)
 have hrow:∀b,b<w.heap.size→some b≠vL.ownBlock:=fun b h1 e=>by have:=(hltL b e.symm).1;omega
 have hx2:w2.heap[bx]?=some (expO .bar pX [] vL vB (.pointer none) 0 0):=((hgrow.block bx (by omega) (fun e=>h.noL e.symm)).trans (hb.block bx hbx)).trans h.xb
 have hvb':vL'.ownBlock≠some bx:=fun e=>by
  rcases hloc with q | q
  ·rw[q]at e;exact h.noL e
  ·rw[q]at e;simp at e;omega
 have hapart:=own_apart h.ownB h.ownL (by decide)
 refine⟨⟨?_,?_,h.ge,?_,?_,?_,?_⟩,?_⟩
 ·rw[hw3]
  exact((h.rd.below hb).butOf hgrow (hrow r hr) (hrow g hg0)).other (p:=⟨bx,3,none⟩) (by simp;omega) (by simp;omega) _
 ·refine⟨hset.os.trans (hgrow.os.trans (hb.os.trans h.but.os)),hset.tape.trans (hgrow.tape.trans (hb.tape.trans h.but.tape)),hset.output.trans (hgrow.output.trans (hb.output.trans h.but.output)),by have:=hset.size;omega,fun b h1 h2=>?_⟩
  rw[hblk b (by omega) (hrow b h1) (by omega)]
  exact h.but.block b h1 h2
 ·rw[hw3,setCell_block hx2]
  rfl
 ·have:=hown.kept hset.grown (.inr hvb')
  unfold ptrC at this ⊢
  simpa using this
 ·exact own_same h.ownB (fun b hb'=>hblk b (h.ownB.lt b hb').2 (fun e=>hapart b hb' e.symm) (fun e=>h.noB (by rw[hb',e])))
 ·intro j hj
  rcases List.mem_append.1 hj with hj | hj
  ·exact h.idge j hj
  ·rw[List.mem_singleton.1 hj];exact hi
 ·exact kids_carry h.xb (by have:=hset.size;omega) (fun b _ h2 h3 h4 _=>hblk b h2 h4 h3) (fun b h1 h2 e=>by
   rcases hloc with q | q
   ·rw[q]at e;exact h2 e
   ·rw[q]at e;simp at e;omega) (fun _ _ h=>h)
structure XChG (N:Nat) (s:ByteArray) (d:Nat) (w:World) (o:PredP.Out PredP.Rows) (bx:Nat) (wr:World) (t:PredP.Tok) (ids bars:List Nat) (vL vB:Value) (m:Nat) (acc:PredP.Rows) (l:PredP.Xs):Prop where
 out:o=PredP.preE acc (tailF (bs s) m d t)
 enough:PredP.Enough (bs s) t m
 le:m≤N
 ids':ids=l.ids
 kids:kidsAt w.heap.size bx vL vB wr l
 nd:l.all.Nodup
 rel:∃bar0 r0 e y l',acc=.cons bar0 r0 e∧l=.cons y l'∧(∃j q m,y=.mk j .row q [] [] m∧PredP.xR r0 m)∧PredP.xEs e l'∧bars=PredP.barsOf e
theorem XChG.more {N:Nat} {s:ByteArray} {d:Nat} {w:World} {o:PredP.Out PredP.Rows} {bx:Nat} {wr:World} {t t':PredP.Tok} {ids bars:List Nat} {vL vB vL' vB':Value} {m':Nat} {acc:PredP.Rows} {l:PredP.Xs} {w3:World} {ps:PredP.Parts} {j q:Nat} {lm:PredP.Xs}
  (h:XChG N s d w o bx wr t ids bars vL vB (m'+1) acc l) (hk:t.kind=124) (hrow:PredP.rowF (bs s) m' d (PredP.tokFrom (bs s) t.to)=.ok ps t') (hen:PredP.Enough (bs s) t' m') (hps:PredP.xR ps lm)
  (hkids:kidsAt w.heap.size bx vL' vB' w3 (l.snoc (.mk j .row q [] [] lm))) (hnd:(l.snoc (.mk j .row q [] [] lm)).all.Nodup) :
  XChG N s d w o bx w3 t' (ids++[j]) (bars++[t.pos]) vL' vB' m' (acc.app (.cons t.pos ps .nil)) (l.snoc (.mk j .row q [] [] lm)):=by
 obtain⟨bar0,r0,e,y,l',e1,e2,e3,e4,e5⟩:=h.rel
 refine⟨?_,hen,Nat.le_of_succ_le h.le,?_,hkids,hnd,⟨bar0,r0,e.app (.cons t.pos ps .nil),y,l'.snoc (.mk j .row q [] [] lm),?_,?_,e3,PredP.xEs_snoc hps e l' e4,?_⟩⟩
 ·rw[h.out,tailF,if_pos hk,expF_tail hrow,PredP.preE_preE]
 ·rw[h.ids',PredP.Xs.ids_snoc];rfl
 ·rw[e1,PredP.Rows.app]
 ·rw[e2,PredP.Xs.snoc]
 ·rw[e5,PredP.barsOf_app]
theorem preE_bad {acc:PredP.Rows} {p:Nat} {b:Bool}:PredP.preE acc (.bad p b)=.bad p b:=rfl
def XRowPost (r g cap:Nat) (s:ByteArray) (d:Nat) (w:World) (o:PredP.Out PredP.Parts) (e:Ending) (w':World):Prop :=
 ∃i k2 t2 what2 pos2,e=.returned (.pointer (some ⟨i,0,none⟩))∧But r w w'∧w.heap.size≤i∧XRd r g cap s k2 t2 d what2 pos2 w' ∧
  Hid (match o with
   | .ok ps t'=>what2=0∧pos2=0∧t2=t'∧∃p lm,PredP.xR ps lm∧NewX w.heap.size w' (.mk i .row p [] [] lm)
   | .bad p b=>what2=codeOf b∧pos2=p)
theorem RowX.post {r g cap:Nat} {s:ByteArray} {d:Nat} {w:World} {o:PredP.Out PredP.Parts} {e:Ending} {w':World} (h:RowX r g cap s d w o e w'):XRowPost r g cap s d w o e w':=by
 obtain⟨hb,i,he,hi,h⟩:=h
 cases o with
 | ok ps t' =>
  obtain⟨p,l,k,h2,h3,h4⟩:=h
  exact⟨i,k,t',0,0,he,hb,hi,h4,rfl,rfl,rfl,p,l,h2,h3⟩
 | bad p b =>
  obtain⟨k,t',h⟩:=h
  exact⟨i,k,t',_,_,he,hb,hi,h,rfl,rfl⟩
theorem XCh.zero {r g cap:Nat} {s:ByteArray} {d:Nat} {w w1:World} {k:Nat} {t:PredP.Tok} {what pos i pX:Nat} (hrd:XRd r g cap s k t d what pos w1) (hb:But r w w1) (hi:w.heap.size≤i) :
  XCh r g cap s d w (w1.heap.size+1) pX ((w1.alloc (.cells #[.pointer (some ⟨i,0,none⟩)] 83)).alloc (expO .bar pX [] (.slice (some ⟨w1.heap.size,0,none⟩) 1 1) (.slice none 0 0) (.pointer none) 0 0)) what pos k t [i] [] (.slice (some ⟨w1.heap.size,0,none⟩) 1 1) (.slice none 0 0) ∧
   ∀x,NewX w.heap.size w1 x→kidsAt w.heap.size (w1.heap.size+1) (.slice (some ⟨w1.heap.size,0,none⟩) 1 1) (.slice none 0 0) ((w1.alloc (.cells #[.pointer (some ⟨i,0,none⟩)] 83)).alloc (expO .bar pX [] (.slice (some ⟨w1.heap.size,0,none⟩) 1 1) (.slice none 0 0) (.pointer none) 0 0)) (.cons x .nil):=by
 have hsz:=hb.size
 have hB:Below w1.heap.size w1 ((w1.alloc (.cells #[.pointer (some ⟨i,0,none⟩)] 83)).alloc (expO .bar pX [] (.slice (some ⟨w1.heap.size,0,none⟩) 1 1) (.slice none 0 0) (.pointer none) 0 0)):=((Below.refl _ w1).alloc (Nat.le_refl _) _).alloc (by simp) _
 have h0:((w1.alloc (.cells #[.pointer (some ⟨i,0,none⟩)] 83)).alloc (expO .bar pX [] (.slice (some ⟨w1.heap.size,0,none⟩) 1 1) (.slice none 0 0) (.pointer none) 0 0)).heap[w1.heap.size]?=some (.cells #[.pointer (some ⟨i,0,none⟩)] 83):=by
  rw[Below.heap_alloc _ _ _ (by simp),heap_alloc_new]
 have h1:((w1.alloc (.cells #[.pointer (some ⟨i,0,none⟩)] 83)).alloc (expO .bar pX [] (.slice (some ⟨w1.heap.size,0,none⟩) 1 1) (.slice none 0 0) (.pointer none) 0 0)).heap[w1.heap.size+1]?=some (expO .bar pX [] (.slice (some ⟨w1.heap.size,0,none⟩) 1 1) (.slice none 0 0) (.pointer none) 0 0):=by
  have:=heap_alloc_new (w1.alloc (.cells #[.pointer (some ⟨i,0,none⟩)] 83)) (expO .bar pX [] (.slice (some ⟨w1.heap.size,0,none⟩) 1 1) (.slice none 0 0) (.pointer none) 0 0)
  rwa[World.size_alloc]at this
 refine⟨⟨hrd.below hB,hb.trans (But.of_below hB),by omega,h1,⟨rfl,.inr ⟨_,1,_,rfl,hsz,h0,Nat.le_refl _,by unfold maxLen;omega,rfl,rfl⟩⟩,World.ownsRow_nil _ _ _ _,fun j hj=>by rw[List.mem_singleton.1 hj];exact hi⟩,?_⟩
 intro x hx
 unfold kidsAt xsAt
 refine⟨xAt.carry hB.size ?_ ?_ x none hx.at',by unfold xsAt;trivial⟩
 ·intro b h2 h3
  exact⟨⟨h2,by omega,fun e=>by simp[Value.ownBlock]at e;omega,fun e=>by simp[Value.ownBlock]at e⟩,hB.block b h3⟩
 ·rintro b ⟨h2,h4⟩ h3
  exact⟨⟨⟨h2,h4.same (hB.block b h3)⟩,fun e=>by simp[Value.ownBlock]at e;omega,fun e=>by simp[Value.ownBlock]at e⟩,hB.block b h3⟩
theorem kids_new {n bx:Nat} {vL vB:Value} {wr wt:World} (hb:Below wr.heap.size wr wt):∀(l:PredP.Xs),kidsAt n bx vL vB wr l→xsAt (fun b=>n≤b) (fun b=>n≤b∧noExp wt b) wt none l :=
 fun l h=>xsAt.carry hb.size (fun b h1 h2=>⟨h1.1,hb.block b h2⟩) (fun b h1 h2=>⟨⟨h1.1.1,h1.1.2.same (hb.block b h2)⟩,hb.block b h2⟩) l none h
theorem XCh.fail {r g cap:Nat} {s:ByteArray} {d:Nat} {w:World} {o:PredP.Out PredP.Rows} {bx pX:Nat} {wr:World} {what pos k:Nat} {t:PredP.Tok} {ids bars:List Nat} {vL vB:Value} (h:XCh r g cap s d w bx pX wr what pos k t ids bars vL vB) {p:Nat} {b:Bool} (ho:o=.bad p b) (hw:what=codeOf b) (hp:pos=p) {wt:World} (hb:Below wr.heap.size wr wt) (i:Nat) (hi:w.heap.size≤i) :
  ChX r g cap s d w o (.returned (.pointer (some ⟨i,0,none⟩))) wt:=by
 subst ho hw hp
 exact⟨h.but.trans (But.of_below hb),i,rfl,hi,k,t,h.rd.below hb⟩
theorem XCh.done {N r g cap:Nat} {s:ByteArray} {d:Nat} {w:World} {o:PredP.Out PredP.Rows} {bx pX:Nat} {wr:World} {k:Nat} {t:PredP.Tok} {ids bars:List Nat} {vL vB:Value} (h:XCh r g cap s d w bx pX wr 0 0 k t ids bars vL vB) {m:Nat} {acc:PredP.Rows} {l:PredP.Xs} (hG:XChG N s d w o bx wr t ids bars vL vB m acc l) (hk:t.kind≠124) {wt:World} (hb:Below wr.heap.size wr wt) :
  (∀i,ids=[i]→ChX r g cap s d w o (.returned (.pointer (some ⟨i,0,none⟩))) wt)∧(ids.length≠1→ChX r g cap s d w o (.returned (.pointer (some ⟨bx,0,none⟩))) wt):=by
 have hbut:=h.but.trans (But.of_below hb)
 have ho:o=.ok acc t:=by
  rw[hG.out,tailF,if_neg hk]
  simp only[PredP.preE,PredP.Rows.app_nil]
 obtain⟨bar0,r0,e,y,l',e1,e2,⟨j,q,lm,e3,e4⟩,e5,e6⟩:=hG.rel
 have hkids:=kids_new hb l hG.kids
 have hnd:=hG.nd
 constructor
 ·intro i hi
  have hid:=hG.ids'
  rw[hi,e2,PredP.Xs.ids]at hid
  have hl':l'=.nil:=by
   cases l' with
   | nil=>rfl
   | cons z l''=>simp[PredP.Xs.ids]at hid
  have hyi:y.id=i:=by have:=List.head_eq_of_cons_eq hid;exact this.symm
  subst hl'
  have he:e=.nil:=by
   cases e with
   | nil=>rfl
   | cons b r e=>rw[PredP.xEs]at e5;obtain⟨_,_,h',_⟩:=e5;cases h'
  subst he
  refine⟨hbut,i,rfl,h.idge i (by rw[hi];exact List.mem_singleton.2 rfl),?_⟩
  rw[ho]
  rw[e2]at hkids hnd
  unfold xsAt at hkids
  rw[PredP.Xs.all,PredP.Xs.all,List.append_nil]at hnd
  exact⟨y,k,hyi,by rw[e1,PredP.xE];exact⟨j,q,lm,e3,e4⟩,⟨hkids.1,hnd⟩,h.rd.below hb⟩
 ·intro hne
  have hid:=hG.ids'
  refine⟨hbut,bx,rfl,h.ge,?_⟩
  rw[ho]
  have hbx:=h.lt
  have hAB:∀b,(w.heap.size≤b∧noExp wr b)→b<wr.heap.size→(w.heap.size≤b∧noExp wt b)∧wt.heap[b]?=wr.heap[b]?:=fun b hb' hl=>⟨⟨hb'.1,hb'.2.same (hb.block b hl)⟩,hb.block b hl⟩
  have hsL:slAt (fun b=>w.heap.size≤b∧noExp wt b) wt 1 vL (ptrC ids):=slAt.carry hb.size hAB (slAt.of_owns h.ownL (fun g hg=>⟨(h.ownL.lt g hg).1,own_noExp h.ownL (by decide) hg⟩))
  have hsB:slAt (fun b=>w.heap.size≤b∧noExp wt b) wt 1 vB (intC bars):=slAt.carry hb.size hAB (slAt.of_owns h.ownB (fun g hg=>⟨(h.ownB.lt g hg).1,own_noExp h.ownB (by decide) hg⟩))
  rw[hid]at hsL
  refine⟨.mk bx .bar pX [] bars l,k,rfl,?_,⟨?_,?_⟩,h.rd.below hb⟩
  ·cases e with
   | nil =>
    rw[PredP.xEs]at e5
    subst e5
    rw[hid,e2]at hne
    exact absurd rfl hne
   | cons b r' e' =>
    rw[e1,PredP.xE]
    refine⟨bx,pX,y,l',?_,⟨j,q,lm,e3,e4⟩,e5⟩
    rw[e6,e2,PredP.barsOf]
  ·unfold xAt
   exact⟨h.ge,by simp,vL,vB,_,0,0,(hb.block bx hbx).trans h.xb,hsL,hsB,(fun x hx=>by cases hx),hkids⟩
  ·rw[PredP.X.all,List.nodup_cons]
   exact⟨fun hm=>(xsAt.ids l none hG.kids bx hm).1.2.1 rfl,hnd⟩
theorem wpAnyH_mono' {P:Program} {md:Region.Mode} {ops:Array Oper} {Q:Exit→Act→World→Prop} {S S2:World→Prop} (hS:∀w,S2 w→S w):∀(fuel:Nat) (listed:Array Bool) (a:Act) (w:World),wpAnyH P md ops Q S2 fuel listed a w→wpAnyH P md ops Q S fuel listed a w
 | 0,_,_,_,h=>h
 | fuel+1,_,_,_,h=>⟨h.1,fun i hi=>wpOp_mono (fun a' w' h'=>⟨hS w' h'.1,wpAnyH_mono' hS fuel _ a' w' h'.2⟩) (h.2 i hi)⟩
end
section
open Go.RowKit
def ChR (N r g cap:Nat) (s:ByteArray) (d:Nat) (w:World) (o:PredP.Out PredP.Rows) (bx pX:Nat) (wr:World):Prop :=
 ∃what pos k t ids bars vL vB,XCh r g cap s d w bx pX wr what pos k t ids bars vL vB∧ids≠[] ∧
  ((what=0∧pos=0∧ids.length≤k+1∧bars.length+1=ids.length∧∃m acc l,XChG N s d w o bx wr t ids bars vL vB m acc l)∨(∃p b,o=.bad p b∧what=codeOf b∧pos=p))
theorem ChR.zero {m r g cap:Nat} {s:ByteArray} {d:Nat} {w w1:World} {o:PredP.Out PredP.Rows} {t0 t2:PredP.Tok} {k2 what2 pos2 i pX:Nat} (ho:PredP.expF (bs s) (m+1) d 0 t0=o) (hf:t0.fits (bs s)) (hen:PredP.Enough (bs s) t0 m)
  (hrd:XRd r g cap s k2 t2 d what2 pos2 w1) (hb:But r w w1) (hi:w.heap.size≤i)
  (hc:match PredP.rowF (bs s) m d t0 with | .ok ps t'=>what2=0∧pos2=0∧t2=t'∧∃p lm,PredP.xR ps lm∧NewX w.heap.size w1 (.mk i .row p [] [] lm) | .bad p b=>what2=codeOf b∧pos2=p) :
  ChR m r g cap s d w o (w1.heap.size+1) pX ((w1.alloc (.cells #[.pointer (some ⟨i,0,none⟩)] 83)).alloc (expO .bar pX [] (.slice (some ⟨w1.heap.size,0,none⟩) 1 1) (.slice none 0 0) (.pointer none) 0 0)):=by
 obtain⟨h1,h2⟩:=XCh.zero (pX:=pX) hrd hb hi
 refine⟨what2,pos2,k2,t2,[i],[],_,_,h1,by simp,?_⟩
 cases hr:PredP.rowF (bs s) m d t0 with
 | bad p b =>
  rw[hr]at hc
  exact .inr ⟨p,b,by rw[←ho,PredP.expF_bad hr],hc.1,hc.2⟩
 | ok ps t' =>
  rw[hr]at hc
  obtain⟨rfl,rfl,rfl,p,lm,h3,h4⟩:=hc
  have hon:=(PredP.reader_on (bs s) m).2 _ _ _ _ hf hr
  refine .inl ⟨rfl,rfl,by simp,rfl,m,.cons 0 ps .nil,.cons (.mk i .row p [] [] lm) .nil,⟨?_,hen.on hon,Nat.le_refl _,rfl,h2 _ h4,?_,⟨0,ps,.nil,_,.nil,rfl,rfl,⟨i,p,lm,rfl,h3⟩,by rw[PredP.xEs],rfl⟩⟩⟩
  ·rw[←ho,expF_tail hr]
  ·rw[PredP.Xs.all,PredP.Xs.all,List.append_nil];exact h4.nd
theorem grow_bar {W w2:World} {bx k:Nat} {p:Int} {L B u:Value} {row:Option Nat} (h:W.heap[bx]?=some (expO .bar p [] L B (.pointer none) 0 0)) (hv:row≠some bx) (hg:W.grownBy w2 row) (hu:(#[.string (opB .bar),.int .i64 p,vS [],L,B,.pointer none,.int .i64 0,.int .i64 0]:Array Value)[k]?=some u) :
  w2.cell? ⟨bx,k,none⟩=some u∧w2.frozen? ⟨bx,k,none⟩=false:=by
 have e:w2.heap[bx]?=some (expO .bar p [] L B (.pointer none) 0 0):=(hg.block bx (Array.getElem?_eq_some_iff.1 h).1 (fun e=>hv e.symm)).trans h
 constructor
 ·simp only[World.cell?,e];exact hu
 ·simp only[World.frozen?,e];rfl
theorem infoI:(Tryz.prog.info? 3).map (fun i=>(i.zero,i.size,i.bytes))=some (some (.int .i64 0),1,8):=by kernel_rfl
theorem But.undrew {r:Nat} {w w':World} (h:But r w.drew w'):But r w w':=⟨h.os,h.tape,h.output,h.size,h.block⟩
theorem grow_cell {W w2:World} {b k:Nat} {u:Value} {row:Option Nat} (h:W.cell? ⟨b,k,none⟩=some u) (hv:row≠some b) (hg:W.grownBy w2 row):w2.cell? ⟨b,k,none⟩=some u :=
 (World.cell?_of_block (a:=⟨b,k,none⟩) (hg.block b (bltc h) (fun e=>hv e.symm))).trans h
theorem own_front {w:World} {base e n:Nat} {v:Value} {ids:List Nat} (h:w.ownsRow base e 1 v n (ptrC ids)) (hne:ids≠[]):∃g cap,v=.slice (some ⟨g,0,none⟩) ids.length cap∧Hid (∀j u,(ptrC ids)[j]?=some u→w.cell? ⟨g,j,none⟩=some u):=by
 have hl:ids.length=n:=by have:=h.1;simp[ptrC]at this;exact this
 rcases h.2 with ⟨_,hn⟩ | ⟨g,cap,cur,hv,_,hg,_⟩
 ·exact absurd (List.eq_nil_of_length_eq_zero (by omega)) hne
 ·refine⟨g,cap,by rw[hv,hl],fun j u hu=>?_⟩
  have:=h.cells (g:=g) (by rw[hv];rfl) j u hu
  have hadd:(⟨g,0,none⟩:Addr).add j=⟨g,j,none⟩:=by unfold Addr.add;split<;>simp_all
  rwa[hadd]at this
theorem ChR.next {N r g cap:Nat} {s:ByteArray} {d:Nat} {w:World} {o:PredP.Out PredP.Rows} {bx pX:Nat} {wr w3 wk wn W w4 w5:World} {k k2:Nat} {t t2:PredP.Tok} {ids bars:List Nat} {vL vB vB' vL':Value} {what2 pos2 i m acc l} (hs:s.size≤400)
  (hr:r<w.heap.size) (hg0:g<w.heap.size) (hX:XCh r g cap s d w bx pX wr 0 0 k t ids bars vL vB) (hG:XChG N s d w o bx wr t ids bars vL vB (m+1) acc l) (hlen:ids.length≤k+1) (hbl:bars.length+1=ids.length) (hk:t.kind=124)
  (hB:XCh r g cap s d w bx pX w3 0 0 k t ids (bars++[t.pos]) vL vB'∧∀l,kidsAt w.heap.size bx vL vB wr l→kidsAt w.heap.size bx vL vB' w3 l)
  (hbk:But r w3 wk) (hsz:wr.heap.size≤w3.heap.size) (hbn:But r wk wn) (hrd:XRd r g cap s k2 t2 d what2 pos2 wn) (hi:wk.heap.size≤i)
  (hc:match PredP.rowF (bs s) m d (PredP.tokFrom (bs s) t.to) with | .ok ps t'=>what2=0∧pos2=0∧t2=t'∧∃p lm,PredP.xR ps lm∧NewX wk.heap.size wn (.mk i .row p [] [] lm) | .bad p b=>what2=codeOf b∧pos2=p)
  (hb:Below wn.heap.size wn W) (hgrow:W.grownBy w4 vL.ownBlock) (hown:w4.ownsRow w.heap.size 83 1 vL' (ids.length+1) (ptrC ids++[.pointer (some ⟨i,0,none⟩)]))
  (hloc:vL'.ownBlock=vL.ownBlock∨vL'.ownBlock=some W.heap.size) (hw5:w5=w4.setCell ⟨bx,3,none⟩ vL'):ChR N r g cap s d w o bx pX w5∧xmu r w5<xmu r wr:=by
 obtain⟨hB1,hB2⟩:=hB
 have hwsz:=hX.but.size
 obtain⟨hN1,hN2⟩:=hB1.through hr (hbk.trans hbn) hrd
 obtain⟨hK1,hK2⟩:=hN1.kid hr hg0 hb hgrow hown hloc (by have:=hbk.size;omega) hw5
 have hlast:t.last=false:=by simp[PredP.Tok.last,hk]
 have htk:=hX.rd.tk
 have hnx:=(PredP.toks_next htk).2 hlast
 have hklen:=hX.rd.tok.2.2.2
 have htl:=PredP.toks_length (bs s)
 rw[PredP.bs_length]at htl
 cases hrow:PredP.rowF (bs s) m d (PredP.tokFrom (bs s) t.to) with
 | bad p b =>
  rw[hrow]at hc
  obtain⟨rfl,rfl⟩:=hc
  refine⟨⟨_,_,k2,t2,_,_,_,_,hK1,by simp,.inr ⟨_,b,?_,rfl,rfl⟩⟩,?_⟩
  ·rw[hG.out,tailF,if_pos hk,PredP.expF_bad hrow];rfl
  ·rw[hK1.rd.mu,hX.rd.mu]
   have:codeOf b≠0:=by unfold codeOf;split<;>omega
   simp[this]
   omega
 | ok ps t' =>
  rw[hrow]at hc
  obtain⟨rfl,rfl,rfl,p,lm,h3,h4⟩:=hc
  have hfit:=((PredP.toks_next htk).1).fits
  have hon1:=PredP.Tok.on_next hfit (PredP.last_false hlast)
  have hon:=(PredP.reader_on (bs s) m).2 _ _ _ _ hon1.1 hrow
  have hpos:=PredP.Tok.on_pos hon
  have hkk:k+1≤k2:=by
   rcases Nat.lt_or_ge k2 (k+1) with h | h
   ·have:=toks_up hrd.tk (k+1 - k2) (b:=PredP.tokFrom (bs s) t.to) (by rw[show k2+(k+1 - k2)=k+1 by omega];exact hnx)
    omega
   ·exact h
  have hen:=PredP.Enough.next hG.enough hfit (PredP.last_false hlast)
  have hkids:kidsAt w.heap.size bx vL' vB' w5 (l.snoc (.mk i .row p [] [] lm)):=hK2 _ (kids_snoc h4 (hN2 _ (hB2 _ hG.kids)) (by have:=hbk.size;omega) (by have:=hX.lt;have:=hbk.size;omega) (fun g' hg'=>by have:=(hB1.ownL.lt g' hg').2;have:=hbk.size;omega) (fun g' hg'=>by have:=(hB1.ownB.lt g' hg').2;have:=hbk.size;omega))
  have hnd:(l.snoc (.mk i .row p [] [] lm)).all.Nodup:=by
   rw[PredP.Xs.all_snoc,List.nodup_append]
   refine⟨hG.nd,h4.nd,?_⟩
   intro a ha b hb' e
   subst e
   have h1:=xsAt.ids l none hG.kids a ha
   have h2:=xAt.ids _ none h4.at' a hb'
   have:=hbk.size
   omega
  refine⟨⟨0,0,k2,t2,_,_,_,_,hK1,by simp,.inl ⟨rfl,rfl,by simp;omega,by simp;omega,m,_,_,hG.more hk hrow ((hen.1.mono (by omega)).on hon) h3 hkids hnd⟩⟩,?_⟩
  rw[hK1.rd.mu,hX.rd.mu]
  have:=hrd.tok.2.2.2
  simp
  omega
theorem choice_x (m:Nat) (s:ByteArray) (hs:s.size≤400) (hbr:Hid (∀m',m'<m→ChC s m')):ChC s m:=by
 intro r g cap k t d w hrd hd hn
 obtain⟨o,ho⟩:∃o,PredP.expF (bs s) (m+1) d 0 t=o:=⟨_,rfl⟩
 rw[ho]
 have HO:=hide ho
 have HFIT:=hide (PredP.toks_next hrd.tk).1.fits
 have hr0:=hrd.lt
 have hg0:=hrd.gl
 have hlen:(PredP.toks (bs s)).length≤401:=by have:=PredP.toks_length (bs s);rw[PredP.bs_length]at this;omega
 obtain⟨e0,e1,e2,hk⟩:=hrd.tok
 obtain⟨c0,c1,c2,c3,c4,c5,lt,fz,gl,ne,_,_⟩:=id hrd
 clear ho
 go_enter Tryz.func33,Tryz.ntmps33
 go_wp2_with fail
 go_cut [3] from 4 (fun x wc=>∃bx pX,x=.pointer (some ⟨bx,0,none⟩)∧ChR m r g cap s d w o bx pX wc)
 case first =>
  refine wp_region_held_drew (S:=fun W'=>W'.cell? ⟨r,0,none⟩=some (.slice (some ⟨g,0,none⟩) (PredP.toks (bs s)).length cap)∧∀j u,((PredP.toks (bs s)).flatMap (tokC s))[j]?=some u→W'.cell? ⟨g,j,none⟩=some u) (by kernel_rfl) ⟨c0,hrd.tks⟩ (fun hHeld=>?_)
  refine wpAnyH_take (i:=0) (oi:=?o0a) (v:=?v0a) ?i0a (by kernel_rfl) (by kernel_rfl) (by kernel_rfl) ?p0a (Or.inl ⟨?w0a,?y0a⟩) hHeld ?_
  case i0a=>(simp only[List.getElem?_toArray,List.getElem?_cons_zero];rfl)
  case p0a=>exact fun _ _ _ h=>h
  case w0a=>rfl
  case y0a=>(intro W hSW;obtain⟨q0,q1⟩:=hSW;go_simp;(try with_reducible rfl))
  simp only[Act.put,pu3]
  refine wpAnyH_take (i:=1) (oi:=?o1a) (v:=?v1a) ?i1a (by kernel_rfl) (by kernel_rfl) (by kernel_rfl) ?p1a (Or.inl ⟨?w1a,?y1a⟩) hHeld ?_
  case i1a=>(simp only[gc3];rfl)
  case p1a=>exact fun _ _ _ h=>h
  case w1a=>rfl
  case y1a=>(intro W hSW;obtain⟨q0,q1⟩:=hSW;go_simp;(try with_reducible rfl))
  simp only[Act.put,pu3]
  refine wpAnyH_take (i:=2) (oi:=?o2a) (v:=?v2a) ?i2a (by kernel_rfl) (by kernel_rfl) (by kernel_rfl) ?p2a (Or.inl ⟨?w2a,?y2a⟩) hHeld ?_
  case i2a=>(simp only[gc3];rfl)
  case p2a=>exact fun _ _ _ h=>h
  case w2a=>rfl
  case y2a=>(intro W hSW;obtain⟨q0,q1⟩:=hSW;go_simp;(try with_reducible rfl))
  simp only[Act.put,pu3]
  refine wpAnyH_take (i:=3) (oi:=?o3a) (v:=?v3a) ?i3a (by kernel_rfl) (by kernel_rfl) (by kernel_rfl) ?p3a (Or.inl ⟨?w3a,?y3a⟩) hHeld ?_
  case i3a=>(simp only[gc3];rfl)
  case p3a=>exact fun _ _ _ h=>h
  case w3a=>rfl
  case y3a=>(intro W hSW;obtain⟨q0,q1⟩:=hSW;go_simp;(try with_reducible rfl))
  simp only[Act.put,pu3]
  refine wpAnyH_take (i:=4) (oi:=?o4a) (v:=?v4a) ?i4a (by kernel_rfl) (by kernel_rfl) (by kernel_rfl) ?p4a (Or.inl ⟨?w4a,?y4a⟩) hHeld ?_
  case i4a=>(simp only[gc3];rfl)
  case p4a=>exact fun _ _ _ h=>h
  case w4a=>rfl
  case y4a=>(intro W hSW;obtain⟨q0,q1⟩:=hSW;go_simp;(try with_reducible rfl))
  simp only[Act.put,pu3]
  refine wpAnyH_take (i:=5) (oi:=?o5a) (v:=?v5a) ?i5a (by kernel_rfl) (by kernel_rfl) (by kernel_rfl) ?p5a (Or.inl ⟨?w5a,?y5a⟩) hHeld ?_
  case i5a=>(simp only[gc3];rfl)
  case p5a=>exact fun _ _ _ h=>h
  case w5a=>rfl
  case y5a=>(intro W hSW;obtain⟨q0,q1⟩:=hSW;go_simp;(try with_reducible rfl))
  simp only[Act.put,pu3]
  refine wpAnyH_take (i:=6) (oi:=?o6a) (v:=?v6a) ?i6a (by kernel_rfl) (by kernel_rfl) (by kernel_rfl) ?p6a (Or.inl ⟨?w6a,?y6a⟩) hHeld ?_
  case i6a=>(simp only[gc3];rfl)
  case p6a=>exact fun _ _ _ h=>h
  case w6a=>rfl
  case y6a=>(intro W hSW;obtain⟨q0,q1⟩:=hSW;go_simp;(try with_reducible rfl))
  simp only[Act.put,pu3]
  refine wpAnyH_take (i:=11) (oi:=?o11a) (v:=?v11a) ?i11a (by kernel_rfl) (by kernel_rfl) (by kernel_rfl) ?p11a (Or.inl ⟨?w11a,?y11a⟩) hHeld ?_
  case i11a=>(simp only[gc3];rfl)
  case p11a=>exact fun _ _ _ h=>h
  case w11a=>rfl
  case y11a=>(intro W hSW;obtain⟨q0,q1⟩:=hSW;go_simp;(try with_reducible rfl))
  simp only[Act.put,pu3]
  refine wpAnyH_ready (rs:=[7,12]) (by kernel_rfl) (by simp) ?_
  refine AllReadyH.cons (o:=?o7b) ?i7b (fun K hK=>?c7b) (AllReadyH.cons (o:=?o12b) ?i12b (fun K hK=>?c12b) AllReadyH.nil)
  case i7b=>(simp only[gc3];rfl)
  case i12b=>(simp only[gc3];rfl)
  case c7b =>
   go_simp
   refine hK.out _ _ ⟨c0,hrd.tks⟩ (fun hHeld2=>?_)
   clear hK K
   have hHeld:=hHeld2
   clear hHeld2
   try simp only[Act.put,pu3]
   refine wpAnyH_take (i:=8) (oi:=?o8d) (v:=?v8d) ?i8d (by kernel_rfl) (by kernel_rfl) (by kernel_rfl) ?p8d (Or.inl ⟨?w8d,?y8d⟩) hHeld ?_
   case i8d=>(simp only[gc3];rfl)
   case p8d=>exact fun _ _ _ h=>h
   case w8d=>rfl
   case y8d=>(intro W hSW;obtain⟨q0,q1⟩:=hSW;go_simp;(try with_reducible rfl))
   simp only[Act.put,pu3]
   refine wpAnyH_take (i:=9) (oi:=?o9d) (v:=?v9d) ?i9d (by kernel_rfl) (by kernel_rfl) (by kernel_rfl) ?p9d (Or.inl ⟨?w9d,?y9d⟩) hHeld ?_
   case i9d=>(simp only[gc3];rfl)
   case p9d=>exact fun _ _ _ h=>h
   case w9d=>rfl
   case y9d=>(intro W hSW;obtain⟨q0,q1⟩:=hSW;go_simp;(try with_reducible rfl))
   simp only[Act.put,pu3]
   refine wpAnyH_take (i:=10) (oi:=?o10d) (v:=?v10d) ?i10d (by kernel_rfl) (by kernel_rfl) (by kernel_rfl) ?p10d (Or.inl ⟨?w10d,?y10d⟩) hHeld ?_
   case i10d=>(simp only[gc3];rfl)
   case p10d=>exact fun _ _ _ h=>h
   case w10d=>rfl
   case y10d=>(intro W hSW;obtain⟨q0,q1⟩:=hSW;have q2:=q1 _ _ (toks_cells s _ k t hrd.tk).2.2;go_simp;(try with_reducible rfl))
   simp only[Act.put,pu3]
   refine wpAnyH_ready (rs:=[12]) (by kernel_rfl) (by simp) ?_
   refine AllReadyH.cons (o:=?o12d) ?i12d (fun K hK=>?c12d) AllReadyH.nil
   case i12d=>(simp only[gc3];rfl)
   go_simp
   go_at_call 53
   refine(row_x m r g cap s k t d _ hbr hs hd (XRd.drew hrd) hn).mono ?_
   intro e wn hpost
   obtain⟨i,k2,t2,what2,pos2,rfl,hbn0,hic,hxn,HCase⟩:=hpost.post
   clear hpost
   have hbn:But r w wn:=hbn0.undrew
   have c0n:=hxn.c0
   have c1n:=hxn.c1
   have tksn:=hxn.tks
   obtain⟨_,_,e2n,hkn⟩:=hxn.tok
   refine hK.out _ _ ⟨c0n,tksn⟩ (fun hHeld2=>?_)
   clear hK K
   have hHeld:=hHeld2
   clear hHeld2
   try simp only[Act.put,pu3]
   refine wpAnyH_ready (rs:=[13]) (by kernel_rfl) (by simp) ?_
   refine AllReadyH.cons (o:=?o13d) ?i13d (fun K hK=>?c13d) AllReadyH.nil
   case i13d=>(simp only[gc3];rfl)
   go_simp
   refine hK.out _ _ ⟨al c0n,fun j u hu=>al (tksn j u hu)⟩ (fun hHeld2=>?_)
   clear hK K
   have hHeld:=hHeld2
   clear hHeld2
   try simp only[Act.put,pu3]
   refine wpAnyH_take (i:=14) (oi:=?o14d) (v:=?v14d) ?i14d (by kernel_rfl) (by kernel_rfl) (by kernel_rfl) ?p14d (Or.inl ⟨?w14d,?y14d⟩) hHeld ?_
   case i14d=>(simp only[gc3];rfl)
   case p14d=>exact fun _ _ _ h=>h
   case w14d=>rfl
   case y14d=>(intro W hSW;obtain⟨q0,q1⟩:=hSW;go_simp;(try with_reducible rfl))
   simp only[Act.put,pu3]
   refine wpAnyH_ready (rs:=[15]) (by kernel_rfl) (by simp) ?_
   refine AllReadyH.cons (o:=?o15d) ?i15d (fun K hK=>?c15d) AllReadyH.nil
   case i15d=>(simp only[gc3];rfl)
   go_simp
   refine hK.out _ _ ⟨al (al c0n),fun j u hu=>al (al (tksn j u hu))⟩ (fun hHeld2=>?_)
   clear hK K
   have hHeld:=hHeld2
   clear hHeld2
   try simp only[Act.put,pu3]
   refine wpAnyH_take (i:=16) (oi:=?o16d) (v:=?v16d) ?i16d (by kernel_rfl) (by kernel_rfl) (by kernel_rfl) ?p16d (Or.inl ⟨?w16d,?y16d⟩) hHeld ?_
   case i16d=>(simp only[gc3];rfl)
   case p16d=>exact fun _ _ _ h=>h
   case w16d=>rfl
   case y16d=>(intro W hSW;obtain⟨q0,q1⟩:=hSW;go_simp;(try with_reducible rfl))
   simp only[Act.put,pu3]
   refine wpAnyH_done (by kernel_rfl) ?_ _
   go_wp2_with fail
   go_meet
   exact⟨_,_,rfl,ChR.zero (w1:=wn) HO.out HFIT.out hn hxn hbn hic HCase.out⟩
  case c12b =>
   go_simp
   go_at_call 53
   refine(row_x m r g cap s k t d _ hbr hs hd (XRd.drew hrd) hn).mono ?_
   intro e wn hpost
   obtain⟨i,k2,t2,what2,pos2,rfl,hbn0,hic,hxn,HCase⟩:=hpost.post
   clear hpost
   have hbn:But r w wn:=hbn0.undrew
   have c0n:=hxn.c0
   have c1n:=hxn.c1
   have tksn:=hxn.tks
   obtain⟨_,_,e2n,hkn⟩:=hxn.tok
   refine hK.out _ _ ⟨c0n,tksn⟩ (fun hHeld2=>?_)
   clear hK K
   have hHeld:=hHeld2
   clear hHeld2
   try simp only[Act.put,pu3]
   refine wpAnyH_mono' (S2:=fun W'=>(W'.cell? ⟨r,0,none⟩=some (.slice (some ⟨g,0,none⟩) (PredP.toks (bs s)).length cap)∧∀j u,((PredP.toks (bs s)).flatMap (tokC s))[j]?=some u→W'.cell? ⟨g,j,none⟩=some u)∧W'.cell? ⟨r,1,none⟩=some (.int .i64 (k2:Int))) (fun _ h=>h.1) _ _ _ _ ?_
   have hHeld:(((fun W'=>(W'.cell? ⟨r,0,none⟩=some (.slice (some ⟨g,0,none⟩) (PredP.toks (bs s)).length cap)∧∀j u,((PredP.toks (bs s)).flatMap (tokC s))[j]?=some u→W'.cell? ⟨g,j,none⟩=some u)∧W'.cell? ⟨r,1,none⟩=some (.int .i64 (k2:Int))) wn):Prop):=⟨hHeld,c1n⟩
   refine wpAnyH_take (i:=7) (oi:=?o7e) (v:=?v7e) ?i7e (by kernel_rfl) (by kernel_rfl) (by kernel_rfl) ?p7e (Or.inl ⟨?w7e,?y7e⟩) hHeld ?_
   case i7e=>(simp only[gc3];rfl)
   case p7e=>exact fun _ _ _ h=>h
   case w7e=>rfl
   case y7e=>(intro W hSW;obtain⟨⟨q0,q1⟩,q2⟩:=hSW;go_simp;(try with_reducible rfl))
   simp only[Act.put,pu3]
   refine wpAnyH_take (i:=8) (oi:=?o8e) (v:=?v8e) ?i8e (by kernel_rfl) (by kernel_rfl) (by kernel_rfl) ?p8e (Or.inl ⟨?w8e,?y8e⟩) hHeld ?_
   case i8e=>(simp only[gc3];rfl)
   case p8e=>exact fun _ _ _ h=>h
   case w8e=>rfl
   case y8e=>(intro W hSW;obtain⟨⟨q0,q1⟩,q2⟩:=hSW;go_simp;(try with_reducible rfl))
   simp only[Act.put,pu3]
   refine wpAnyH_take (i:=9) (oi:=?o9e) (v:=?v9e) ?i9e (by kernel_rfl) (by kernel_rfl) (by kernel_rfl) ?p9e (Or.inl ⟨?w9e,?y9e⟩) hHeld ?_
   case i9e=>(simp only[gc3];rfl)
   case p9e=>exact fun _ _ _ h=>h
   case w9e=>rfl
   case y9e=>(intro W hSW;obtain⟨⟨q0,q1⟩,q2⟩:=hSW;go_simp;(try with_reducible rfl))
   simp only[Act.put,pu3]
   refine wpAnyH_take (i:=10) (oi:=?o10e) (v:=?v10e) ?i10e (by kernel_rfl) (by kernel_rfl) (by kernel_rfl) ?p10e (Or.inl ⟨?w10e,?y10e⟩) hHeld ?_
   case i10e=>(simp only[gc3];rfl)
   case p10e=>exact fun _ _ _ h=>h
   case w10e=>rfl
   case y10e=>(intro W hSW;obtain⟨⟨q0,q1⟩,q2⟩:=hSW;have q3:=q1 _ _ (toks_cells s _ k2 t2 hxn.tk).2.2;go_simp;(try with_reducible rfl))
   simp only[Act.put,pu3]
   refine wpAnyH_ready (rs:=[13]) (by kernel_rfl) (by simp) ?_
   refine AllReadyH.cons (o:=?o13e) ?i13e (fun K hK=>?c13e) AllReadyH.nil
   case i13e=>(simp only[gc3];rfl)
   go_simp
   refine hK.out _ _ ⟨⟨al c0n,fun j u hu=>al (tksn j u hu)⟩,al c1n⟩ (fun hHeld2=>?_)
   clear hK K
   have hHeld:=hHeld2
   clear hHeld2
   try simp only[Act.put,pu3]
   refine wpAnyH_take (i:=14) (oi:=?o14e) (v:=?v14e) ?i14e (by kernel_rfl) (by kernel_rfl) (by kernel_rfl) ?p14e (Or.inl ⟨?w14e,?y14e⟩) hHeld ?_
   case i14e=>(simp only[gc3];rfl)
   case p14e=>exact fun _ _ _ h=>h
   case w14e=>rfl
   case y14e=>(intro W hSW;obtain⟨q0,q1⟩:=hSW;go_simp;(try with_reducible rfl))
   simp only[Act.put,pu3]
   refine wpAnyH_ready (rs:=[15]) (by kernel_rfl) (by simp) ?_
   refine AllReadyH.cons (o:=?o15e) ?i15e (fun K hK=>?c15e) AllReadyH.nil
   case i15e=>(simp only[gc3];rfl)
   go_simp
   refine hK.out _ _ ⟨⟨al (al c0n),fun j u hu=>al (al (tksn j u hu))⟩,al (al c1n)⟩ (fun hHeld2=>?_)
   clear hK K
   have hHeld:=hHeld2
   clear hHeld2
   try simp only[Act.put,pu3]
   refine wpAnyH_take (i:=16) (oi:=?o16e) (v:=?v16e) ?i16e (by kernel_rfl) (by kernel_rfl) (by kernel_rfl) ?p16e (Or.inl ⟨?w16e,?y16e⟩) hHeld ?_
   case i16e=>(simp only[gc3];rfl)
   case p16e=>exact fun _ _ _ h=>h
   case w16e=>rfl
   case y16e=>(intro W hSW;obtain⟨q0,q1⟩:=hSW;go_simp;(try with_reducible rfl))
   simp only[Act.put,pu3]
   refine wpAnyH_done (by kernel_rfl) ?_ _
   go_wp2_with fail
   go_meet
   exact⟨_,_,rfl,ChR.zero (w1:=wn) HO.out HFIT.out hn hxn hbn hic HCase.out⟩
 case rest =>
  obtain⟨bx,pX,rfl,hrel0⟩:=hcut
  clear e0 e1 e2 c0 c1 c2 c3 c4 c5 fz lt gl ne hk hrd hn HFIT
  obtain⟨i0,hi,hz0,hz1,hz2⟩:=info_parts infoPExp
  obtain⟨i1,hj,hy0,hy1,hy2⟩:=info_parts infoI
  go_wp2_with fail
  go_loopw [20] (fun _ wr=>ChR m r g cap s d w o bx pX wr) (fun _ wr=>xmu r wr)
  case atStart=>exact hrel0
  case round =>
   clear hrel0
   obtain⟨what,pos,k,t,ids,bars,vL,vB,hX,hne,hor⟩:=hrel
   rcases hor with ⟨rfl,rfl,hlen2,hbl,m2,acc,l,hG⟩ | ⟨p,b,ho,rfl,rfl⟩
   ·have htk:=hX.rd.tk
    by_cases hk:t.kind=124
    ·have hyes:=hide (isx_yes htk (by decide) hk)
     have HK:=hide hk
     have HBL:=hide hbl
     have hbb:bars.length+1≤ids.length:=by omega
     clear hbl
     obtain⟨m',rfl⟩:=hG.enough.pos
     have hnx:=(PredP.toks_next htk).2 (show t.last=false by simp[PredP.Tok.last,hk])
     have HEN:=hide (PredP.Enough.next hG.enough (PredP.toks_next htk).1.fits (by omega))
     have HBR:Hid (∀m'',m''<m'→ChC s m''):=fun m'' h=>hbr.out m'' (by have:=hG.le;omega)
     clear hk htk
     go_wp2_with fail
     refine(is_any r g cap s k t d 0 0 _ hX.rd ⟨#[124]⟩ true (hide (isx_of hyes.out))).mono ?_
     rintro e w1 ⟨rfl,hb1⟩
     obtain⟨hX1,hKd1⟩:=hX.through hr0 (But.of_below hb1) (hX.rd.below hb1)
     have hbx:=hX1.lt
     have hge:=hX1.ge
     have hz1':=hb1.size
     have hws:=hX1.but.size
     obtain⟨e0,e1,e2,hkl⟩:=hX1.rd.tok
     obtain⟨c0,c1,c2,c3,c4,c5,lt,fz,gl,ne,_,_⟩:=id hX1.rd
     have x4:w1.cell? ⟨bx,4,none⟩=some vB:=by simp only[World.cell?,hX1.xb];rfl
     have hOB:w1.drew.ownsRow w.heap.size 3 1 vB bars.length (intC bars):=hX1.ownB
     have hnb:=hX1.noB
     have hrB:vB.ownBlock≠some r:=fun e=>by have:=hX1.ownB.lt r e;omega
     have hgB:vB.ownBlock≠some g:=fun e=>by have:=hX1.ownB.lt g e;omega
     have hWX:∀o:Obj,(w1.drew.alloc o).heap[bx]?=some (expO .bar pX [] vL vB (.pointer none) 0 0):=fun o=>(Below.heap_alloc w1.drew o bx hbx).trans hX1.xb
     have HWX:=hide hWX
     clear hWX
     go_wp2_with fail
     refine wp_region_T (S:=fun W'=>W'.cell? ⟨bx,4,none⟩=some vB∧W'.cell? ⟨r,0,none⟩=some (.slice (some ⟨g,0,none⟩) (PredP.toks (bs s)).length cap)∧W'.cell? ⟨r,1,none⟩=some (.int .i64 (k:Int))∧W'.cell? ⟨g,k * 3+2,none⟩=some (.int .i64 (t.pos:Int))) (t:=20) (by kernel_rfl) ⟨x4,c0,c1,e2⟩ ?_
     intro hHeld
     refine wpAnyT_take (i:=0) (oi:=?o0f) (v:=?v0f) ?i0f (by kernel_rfl) (by kernel_rfl) ?p0f (Or.inl ⟨?w0f,?y0f⟩) hHeld ?_
     case i0f=>(simp only[List.getElem?_toArray,List.getElem?_cons_zero];rfl)
     case p0f=>exact fun _ _ _ h=>h
     case w0f=>rfl
     case y0f=>(intro W hSW;obtain⟨q0,q1,q2,q3⟩:=hSW;go_simp;(try with_reducible rfl))
     simp only[Act.put,pu3]
     refine wpAnyT_take (i:=1) (oi:=?o1f) (v:=?v1f) ?i1f (by kernel_rfl) (by kernel_rfl) ?p1f (Or.inl ⟨?w1f,?y1f⟩) hHeld ?_
     case i1f=>(simp only[gc3];rfl)
     case p1f=>exact fun _ _ _ h=>h
     case w1f=>rfl
     case y1f=>(intro W hSW;obtain⟨q0,q1,q2,q3⟩:=hSW;go_simp;(try with_reducible rfl))
     simp only[Act.put,pu3]
     refine wpAnyT_take (i:=2) (oi:=?o2f) (v:=?v2f) ?i2f (by kernel_rfl) (by kernel_rfl) ?p2f (Or.inl ⟨?w2f,?y2f⟩) hHeld ?_
     case i2f=>(simp only[gc3];rfl)
     case p2f=>exact fun _ _ _ h=>h
     case w2f=>rfl
     case y2f=>(intro W hSW;obtain⟨q0,q1,q2,q3⟩:=hSW;go_simp;(try with_reducible rfl))
     simp only[Act.put,pu3]
     refine wpAnyT_take (i:=3) (oi:=?o3f) (v:=?v3f) ?i3f (by kernel_rfl) (by kernel_rfl) ?p3f (Or.inl ⟨?w3f,?y3f⟩) hHeld ?_
     case i3f=>(simp only[gc3];rfl)
     case p3f=>exact fun _ _ _ h=>h
     case w3f=>rfl
     case y3f=>(intro W hSW;obtain⟨q0,q1,q2,q3⟩:=hSW;go_simp;(try with_reducible rfl))
     simp only[Act.put,pu3]
     refine wpAnyT_take (i:=4) (oi:=?o4f) (v:=?v4f) ?i4f (by kernel_rfl) (by kernel_rfl) ?p4f (Or.inl ⟨?w4f,?y4f⟩) hHeld ?_
     case i4f=>(simp only[gc3];rfl)
     case p4f=>exact fun _ _ _ h=>h
     case w4f=>rfl
     case y4f=>(intro W hSW;obtain⟨q0,q1,q2,q3⟩:=hSW;go_simp;(try with_reducible rfl))
     simp only[Act.put,pu3]
     refine wpAnyT_take (i:=5) (oi:=?o5f) (v:=?v5f) ?i5f (by kernel_rfl) (by kernel_rfl) ?p5f (Or.inl ⟨?w5f,?y5f⟩) hHeld ?_
     case i5f=>(simp only[gc3];rfl)
     case p5f=>exact fun _ _ _ h=>h
     case w5f=>rfl
     case y5f=>(intro W hSW;obtain⟨q0,q1,q2,q3⟩:=hSW;go_simp;(try with_reducible rfl))
     simp only[Act.put,pu3]
     refine wpAnyT_take (i:=6) (oi:=?o6f) (v:=?v6f) ?i6f (by kernel_rfl) (by kernel_rfl) ?p6f (Or.inl ⟨?w6f,?y6f⟩) hHeld ?_
     case i6f=>(simp only[gc3];rfl)
     case p6f=>exact fun _ _ _ h=>h
     case w6f=>rfl
     case y6f=>(intro W hSW;obtain⟨q0,q1,q2,q3⟩:=hSW;go_simp;(try with_reducible rfl))
     simp only[Act.put,pu3]
     refine wpAnyT_take (i:=7) (oi:=?o7f) (v:=?v7f) ?i7f (by kernel_rfl) (by kernel_rfl) ?p7f (Or.inl ⟨?w7f,?y7f⟩) hHeld ?_
     case i7f=>(simp only[gc3];rfl)
     case p7f=>exact fun _ _ _ h=>h
     case w7f=>rfl
     case y7f=>(intro W hSW;obtain⟨q0,q1,q2,q3⟩:=hSW;go_simp;(try with_reducible rfl))
     simp only[Act.put,pu3]
     refine wpAnyT_take (i:=8) (oi:=?o8f) (v:=?v8f) ?i8f (by kernel_rfl) (by kernel_rfl) ?p8f (Or.inl ⟨?w8f,?y8f⟩) hHeld ?_
     case i8f=>(simp only[gc3];rfl)
     case p8f=>exact fun _ _ _ h=>h
     case w8f=>rfl
     case y8f=>(intro W hSW;obtain⟨q0,q1,q2,q3⟩:=hSW;go_simp;(try with_reducible rfl))
     simp only[Act.put,pu3]
     refine wpAnyT_take (i:=9) (oi:=?o9f) (v:=?v9f) ?i9f (by kernel_rfl) (by kernel_rfl) ?p9f (Or.inl ⟨?w9f,?y9f⟩) hHeld ?_
     case i9f=>(simp only[gc3];rfl)
     case p9f=>exact fun _ _ _ h=>h
     case w9f=>rfl
     case y9f=>(intro W hSW;obtain⟨q0,q1,q2,q3⟩:=hSW;go_simp;(try with_reducible rfl))
     simp only[Act.put,pu3]
     refine wpAnyT_take (i:=10) (oi:=?o10f) (v:=?v10f) ?i10f (by kernel_rfl) (by kernel_rfl) ?p10f (Or.inl ⟨?w10f,?y10f⟩) hHeld ?_
     case i10f=>(simp only[gc3];rfl)
     case p10f=>exact fun _ _ _ h=>h
     case w10f=>rfl
     case y10f=>(intro W hSW;obtain⟨q0,q1,q2,q3⟩:=hSW;go_simp;(try with_reducible rfl))
     simp only[Act.put,pu3]
     refine wpAnyT_take (i:=11) (oi:=?o11f) (v:=?v11f) ?i11f (by kernel_rfl) (by kernel_rfl) ?p11f (Or.inl ⟨?w11f,?y11f⟩) hHeld ?_
     case i11f=>(simp only[gc3];rfl)
     case p11f=>exact fun _ _ _ h=>h
     case w11f=>rfl
     case y11f=>(intro W hSW;obtain⟨q0,q1,q2,q3⟩:=hSW;go_simp;(try with_reducible rfl))
     simp only[Act.put,pu3]
     refine wpAnyT_take (i:=12) (oi:=?o12f) (v:=?v12f) ?i12f (by kernel_rfl) (by kernel_rfl) ?p12f (Or.inl ⟨?w12f,?y12f⟩) hHeld ?_
     case i12f=>(simp only[gc3];rfl)
     case p12f=>exact fun _ _ _ h=>h
     case w12f=>rfl
     case y12f=>(intro W hSW;obtain⟨q0,q1,q2,q3⟩:=hSW;go_simp;(try with_reducible rfl))
     simp only[Act.put,pu3]
     refine wpAnyT_take (i:=13) (oi:=?o13f) (v:=?v13f) ?i13f (by kernel_rfl) (by kernel_rfl) ?p13f (Or.inl ⟨?w13f,?y13f⟩) hHeld ?_
     case i13f=>(simp only[gc3];rfl)
     case p13f=>exact fun _ _ _ h=>h
     case w13f=>rfl
     case y13f=>(intro W hSW;obtain⟨q0,q1,q2,q3⟩:=hSW;go_simp;(try with_reducible rfl))
     simp only[Act.put,pu3]
     refine wpAnyT_take (i:=14) (oi:=?o14f) (v:=?v14f) ?i14f (by kernel_rfl) (by kernel_rfl) ?p14f (Or.inl ⟨?w14f,?y14f⟩) hHeld ?_
     case i14f=>(simp only[gc3];rfl)
     case p14f=>exact fun _ _ _ h=>h
     case w14f=>rfl
     case y14f=>(intro W hSW;obtain⟨q0,q1,q2,q3⟩:=hSW;go_simp;(try with_reducible rfl))
     simp only[Act.put,pu3]
     refine wpAnyT_take (i:=15) (oi:=?o15f) (v:=?v15f) ?i15f (by kernel_rfl) (by kernel_rfl) ?p15f (Or.inl ⟨?w15f,?y15f⟩) hHeld ?_
     case i15f=>(simp only[gc3];rfl)
     case p15f=>exact fun _ _ _ h=>h
     case w15f=>rfl
     case y15f=>(intro W hSW;obtain⟨q0,q1,q2,q3⟩:=hSW;go_simp;(try with_reducible rfl))
     simp only[Act.put,pu3]
     refine wpAnyT_one (i:=16) (o:=?o16f) (by kernel_rfl) ?i16f (fun K hK=>?c16f)
     case i16f=>(simp only[gc3];rfl)
     go_simp
     refine hK.out _ _ (fun _=>⟨al (w:=w1.drew) x4,al (w:=w1.drew) c0,al (w:=w1.drew) c1,al (w:=w1.drew) e2⟩) ?_
     clear hK K
     try simp only[Act.put,pu3]
     refine wpAnyT_one (i:=17) (o:=?o17f) (by kernel_rfl) ?i17f (fun K hK=>?c17f)
     case i17f=>(simp only[gc3];rfl)
     refine step_append_own_at rfl _ _ _ rfl w.heap.size 3 i1 (.int .i64 0) 1 8 (by kernel_rfl) hj hy0 hy1 hy2 rfl (by decide) _ bars.length (intC bars) rfl (hOB.alloc _) _ 1 1 [_] rfl rfl (cell_one_new _ _ _) (by simp[Value.oneCell']) (by unfold maxLen;omega) (by omega) (by simp;omega) ?_
     intro vB' w2 hown2 hgrow2 hloc2
     obtain⟨gB,capB,rfl⟩:=Joins.ownsRow_form hown2 (by omega)
     obtain⟨y4,yf⟩:=grow_bar (k:=4) (HWX.out _) hnb hgrow2 rfl
     have y0:=grow_cell (al (w:=w1.drew) c0) hrB hgrow2
     have y1:=grow_cell (al (w:=w1.drew) c1) hrB hgrow2
     have y2:=grow_cell (al (w:=w1.drew) e2) hgB hgrow2
     refine hK.out _ _ (fun _=>⟨y4,y0,y1,y2⟩) ?_
     clear hK K
     try simp only[Act.put,pu3]
     refine wpAnyT_one (i:=18) (o:=?o18f) (by kernel_rfl) ?i18f (fun K hK=>?c18f)
     case i18f=>(simp only[gc3];rfl)
     go_simp
     refine hK.out _ _ (fun _=>⟨y4,y0,y1,y2⟩) ?_
     clear hK K
     try simp only[Act.put,pu3]
     refine wpAnyT_one (i:=19) (o:=?o19f) (by kernel_rfl) ?i19f (fun K hK=>?c19f)
     case i19f=>(simp only[gc3];rfl)
     go_simp
     refine hK.out _ _ (fun _=>⟨y4,y0,y1,y2⟩) ?_
     clear hK K
     try simp only[Act.put,pu3]
     refine wpAnyT_one (i:=20) (o:=?o20f) (by kernel_rfl) ?i20f (fun K hK=>?c20f)
     case i20f=>(simp only[gc3];rfl)
     go_simp
     refine hK.out _ _ (fun h=>absurd rfl h) ?_
     clear hK K
     try simp only[Act.put,pu3]
     refine wpAnyT_done (by kernel_rfl) ?_ _
     have hBW:Below w1.heap.size w1 (w1.drew.alloc (.cells #[.int .i64 (t.pos:Int)] 3)):=(Below.refl _ w1).drew.alloc (Nat.le_refl _) _
     have hBAR:=hX1.bar hr0 hg0 hBW hgrow2 hown2 hloc2 rfl
     have hs3:w1.heap.size≤(w2.setCell ⟨bx,4,none⟩ (.slice (some ⟨gB,0,none⟩) (bars.length+1) capB)).heap.size:=by
      have h1:(w1.alloc (.cells #[.int .i64 (t.pos:Int)] 3)).heap.size≤w2.heap.size:=hgrow2.size
      rw[World.size_alloc]at h1
      have h3:=((But.refl bx w2).setCell (p:=⟨bx,4,none⟩) rfl (.slice (some ⟨gB,0,none⟩) (bars.length+1) capB)).size
      omega
     generalize w2.setCell ⟨bx,4,none⟩ (.slice (some ⟨gB,0,none⟩) (bars.length+1) capB)=w3 at hBAR hs3 ⊢
     clear y0 y1 y2 y4 yf e0 e1 e2 c0 c1 c2 c3 c4 c5 fz x4
     have c1:=hBAR.1.rd.c1
     have fz:=hBAR.1.rd.fz
     have lt3:=hBAR.1.rd.lt
     obtain⟨hxk,hbk⟩:=hBAR.1.rd.goes (k':=k+1) rfl hnx
     rw[show((k+1:Nat):Int)=(k:Int)+1 from rfl]at hxk hbk
     go_wp2_with fail
     generalize w3.setCell ⟨r,1,none⟩ (.int .i64 ((k:Int)+1))=wk at hxk hbk ⊢
     clear c1 fz lt3
     have hzk:=hbk.size
     obtain⟨hXk,hKdk⟩:=hBAR.1.through hr0 hbk hxk
     have x3:wk.cell? ⟨bx,3,none⟩=some vL:=by simp only[World.cell?,hXk.xb];rfl
     have hbxk:=hXk.lt
     have hnl:=hXk.noL
     have HXB:=hide hXk.xb
     refine wp_region_T (S:=fun W'=>W'.cell? ⟨bx,3,none⟩=some vL) (t:=11) (by kernel_rfl) x3 ?_
     intro hHeld
     refine wpAnyT_take (i:=0) (oi:=?o0h) (v:=?v0h) ?i0h (by kernel_rfl) (by kernel_rfl) ?p0h (Or.inl ⟨?w0h,?y0h⟩) hHeld ?_
     case i0h=>(simp only[List.getElem?_toArray,List.getElem?_cons_zero];rfl)
     case p0h=>exact fun _ _ _ h=>h
     case w0h=>rfl
     case y0h=>(intro W hSW;have q0:=hSW;go_simp;(try with_reducible rfl))
     simp only[Act.put,pu3]
     refine wpAnyT_take (i:=1) (oi:=?o1h) (v:=?v1h) ?i1h (by kernel_rfl) (by kernel_rfl) ?p1h (Or.inl ⟨?w1h,?y1h⟩) hHeld ?_
     case i1h=>(simp only[gc3];rfl)
     case p1h=>exact fun _ _ _ h=>h
     case w1h=>rfl
     case y1h=>(intro W hSW;have q0:=hSW;go_simp;(try with_reducible rfl))
     simp only[Act.put,pu3]
     refine wpAnyT_take (i:=2) (oi:=?o2h) (v:=?v2h) ?i2h (by kernel_rfl) (by kernel_rfl) ?p2h (Or.inl ⟨?w2h,?y2h⟩) hHeld ?_
     case i2h=>(simp only[gc3];rfl)
     case p2h=>exact fun _ _ _ h=>h
     case w2h=>rfl
     case y2h=>(intro W hSW;have q0:=hSW;go_simp;(try with_reducible rfl))
     simp only[Act.put,pu3]
     refine wpAnyT_take (i:=3) (oi:=?o3h) (v:=?v3h) ?i3h (by kernel_rfl) (by kernel_rfl) ?p3h (Or.inl ⟨?w3h,?y3h⟩) hHeld ?_
     case i3h=>(simp only[gc3];rfl)
     case p3h=>exact fun _ _ _ h=>h
     case w3h=>rfl
     case y3h=>(intro W hSW;have q0:=hSW;go_simp;(try with_reducible rfl))
     simp only[Act.put,pu3]
     refine wpAnyT_take (i:=4) (oi:=?o4h) (v:=?v4h) ?i4h (by kernel_rfl) (by kernel_rfl) ?p4h (Or.inl ⟨?w4h,?y4h⟩) hHeld ?_
     case i4h=>(simp only[gc3];rfl)
     case p4h=>exact fun _ _ _ h=>h
     case w4h=>rfl
     case y4h=>(intro W hSW;have q0:=hSW;go_simp;(try with_reducible rfl))
     simp only[Act.put,pu3]
     refine wpAnyT_take (i:=5) (oi:=?o5h) (v:=?v5h) ?i5h (by kernel_rfl) (by kernel_rfl) ?p5h (Or.inl ⟨?w5h,?y5h⟩) hHeld ?_
     case i5h=>(simp only[gc3];rfl)
     case p5h=>exact fun _ _ _ h=>h
     case w5h=>rfl
     case y5h=>(intro W hSW;have q0:=hSW;go_simp;(try with_reducible rfl))
     simp only[Act.put,pu3]
     refine wpAnyT_one (i:=6) (o:=?o6h) (by kernel_rfl) ?i6h (fun K hK=>?c6h)
     case i6h=>(simp only[gc3];rfl)
     go_simp
     go_at_call 53
     refine(row_x m' r g cap s (k+1) _ d _ HBR hs hd (XRd.drew hxk) (HEN.out.1.mono (by omega))).mono ?_
     intro e wn hpost
     obtain⟨i,k2,t2,what2,pos2,rfl,hbn0,hic,hxn,HCase⟩:=hpost.post
     clear hpost
     have hbn:But r wk wn:=hbn0.undrew
     have hzn:=hbn.size
     obtain⟨hXn,hKdn⟩:=hXk.through hr0 hbn hxn
     have xn3:=(hbn.cell (b:=bx) (o:=3) hbxk (by omega)).trans x3
     have hOL:=hXn.ownL
     have HXN:=hide hXn.xb
     have hbxn:=hXn.lt
     refine hK.out _ _ (fun _=>xn3) ?_
     clear hK K
     try simp only[Act.put,pu3]
     refine wpAnyT_one (i:=7) (o:=?o7h) (by kernel_rfl) ?i7h (fun K hK=>?c7h)
     case i7h=>(simp only[gc3];rfl)
     go_simp
     refine hK.out _ _ (fun _=>al xn3) ?_
     clear hK K
     try simp only[Act.put,pu3]
     refine wpAnyT_one (i:=8) (o:=?o8h) (by kernel_rfl) ?i8h (fun K hK=>?c8h)
     case i8h=>(simp only[gc3];rfl)
     refine step_append_own_at rfl _ _ _ rfl w.heap.size 83 i0 (.pointer none) 1 8 (by kernel_rfl) hi hz0 hz1 hz2 rfl (by decide) _ ids.length (ptrC ids) rfl (hOL.alloc _) _ 1 1 [_] rfl rfl (cell_one_new _ _ _) (by simp[Value.oneCell']) (by unfold maxLen;omega) (by omega) (by simp;omega) ?_
     intro vL' w4 hown4 hgrow4 hloc4
     obtain⟨gL,capL,rfl⟩:=Joins.ownsRow_form hown4 (by omega)
     obtain⟨y3,yf⟩:=grow_bar (k:=3) ((Below.heap_alloc wn _ bx hbxn).trans HXN.out) hnl hgrow4 rfl
     refine hK.out _ _ (fun _=>y3) ?_
     clear hK K
     try simp only[Act.put,pu3]
     refine wpAnyT_one (i:=9) (o:=?o9h) (by kernel_rfl) ?i9h (fun K hK=>?c9h)
     case i9h=>(simp only[gc3];rfl)
     go_simp
     refine hK.out _ _ (fun _=>y3) ?_
     clear hK K
     try simp only[Act.put,pu3]
     refine wpAnyT_one (i:=10) (o:=?o10h) (by kernel_rfl) ?i10h (fun K hK=>?c10h)
     case i10h=>(simp only[gc3];rfl)
     go_simp
     refine hK.out _ _ (fun _=>y3) ?_
     clear hK K
     try simp only[Act.put,pu3]
     refine wpAnyT_one (i:=11) (o:=?o11h) (by kernel_rfl) ?i11h (fun K hK=>?c11h)
     case i11h=>(simp only[gc3];rfl)
     go_simp
     refine hK.out _ _ (fun h=>absurd rfl h) ?_
     clear hK K
     try simp only[Act.put,pu3]
     refine wpAnyT_done (by kernel_rfl) ?_ _
     go_wp2_with fail
     have hBN:Below wn.heap.size wn (wn.alloc (.cells #[.pointer (some ⟨i,0,none⟩)] 83)):=(Below.refl _ wn).alloc (Nat.le_refl _) _
     exact ChR.next hs hr0 hg0 hX hG hlen2 HBL.out HK.out ⟨hBAR.1,fun l h=>hBAR.2 l (hKd1 l h)⟩ hbk (by omega) hbn hxn hic HCase.out hBN hgrow4 hown4 hloc4 rfl
    ·have hne':=hide (isx_not htk (by decide) hk)
     have HD:=hide (fun wt hb=>hX.done (wt:=wt) hG hk hb)
     clear hk htk
     go_wp2_with fail
     refine(is_any r g cap s k t d 0 0 _ hX.rd ⟨#[124]⟩ false (hide (isx_of hne'.out))).mono ?_
     rintro e w1 ⟨rfl,hb1⟩
     obtain⟨gl,capl,hvl,hLc⟩:=own_front (hX.through hr0 (But.of_below hb1) (hX.rd.below hb1)).1.ownL hne
     subst hvl
     have x3:w1.cell? ⟨bx,3,none⟩=some (.slice (some ⟨gl,0,none⟩) ids.length capl):=by
      have:=(hX.through hr0 (But.of_below hb1) (hX.rd.below hb1)).1.xb
      simp only[World.cell?,this];rfl
     by_cases h1:ids.length=1
     ·obtain⟨j,hj1⟩:∃j,ids=[j]:=List.length_eq_one_iff.1 h1
      have HJ:=hide hj1
      have y0:w1.cell? ⟨gl,0,none⟩=some (.pointer (some ⟨j,0,none⟩)):=hLc.out 0 _ (by rw[hj1];rfl)
      have h1i:((ids.length:Nat):Int)=1:=by omega
      clear hj1
      go_wp2_with fail
      go_ret
      exact(HD.out _ hb1).1 _ HJ.out
     ·have h1i:((ids.length:Nat):Int)≠1:=by omega
      have H1:=hide h1
      go_wp2_with fail
      go_ret
      exact(HD.out _ hb1).2 H1.out
   ·have hw0:codeOf b≠0:=by unfold codeOf;split<;>omega
    have HF:=hide (fun wt hb=>hX.fail (wt:=wt) ho rfl rfl hb)
    have HID:=hide hX.idge
    have hge:=hX.ge
    go_wp2_with fail
    refine(is_any r g cap s k t d (codeOf b) pos _ hX.rd ⟨#[124]⟩ false (hide (by rw[show(codeOf b==0)=false by simpa using hw0];rfl))).mono ?_
    rintro e w1 ⟨rfl,hb1⟩
    clear ho hw0
    obtain⟨gl,capl,hvl,hLc⟩:=own_front (hX.through hr0 (But.of_below hb1) (hX.rd.below hb1)).1.ownL hne
    subst hvl
    have x3:w1.cell? ⟨bx,3,none⟩=some (.slice (some ⟨gl,0,none⟩) ids.length capl):=by
     have:=(hX.through hr0 (But.of_below hb1) (hX.rd.below hb1)).1.xb
     simp only[World.cell?,this];rfl
    by_cases h1:ids.length=1
    ·obtain⟨j,hj1⟩:∃j,ids=[j]:=List.length_eq_one_iff.1 h1
     have HJ:=hide hj1
     have y0:w1.cell? ⟨gl,0,none⟩=some (.pointer (some ⟨j,0,none⟩)):=hLc.out 0 _ (by rw[hj1];rfl)
     have h1i:((ids.length:Nat):Int)=1:=by omega
     clear hj1
     go_wp2_with fail
     go_ret
     exact HF.out _ hb1 _ (HID.out _ (by rw[HJ.out];exact List.mem_singleton.2 rfl))
    ·have h1i:((ids.length:Nat):Int)≠1:=by omega
     go_wp2_with fail
     go_ret
     exact HF.out _ hb1 _ hge
end
end Go.Proofs.YtpcmemcanpgadaaGreatDoor
