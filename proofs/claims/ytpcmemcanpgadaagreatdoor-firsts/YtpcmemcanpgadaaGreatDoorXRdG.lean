import Derived.Test.YtpcmemcanpgadaaGreatDoorXTokG
import Derived.Test.YtpcmemcanpgadaaGreatDoorAstG
import Derived.Test.YtpcmemcanpgadaaGreatDoorPureX
import Derived.Deep.RegionHeld3
set_option maxHeartbeats 600000
set_option maxRecDepth 100000
namespace Go.Proofs.YtpcmemcanpgadaaGreatDoor
open PredP (hide Str Rule bs)
section
open Go.RowKit
structure XRd (r g cap:Nat) (s:ByteArray) (k:Nat) (t:PredP.Tok) (d what pos:Nat) (w:World):Prop where
 c0:w.cell? ⟨r,0,none⟩=some (.slice (some ⟨g,0,none⟩) (PredP.toks (bs s)).length cap)
 c1:w.cell? ⟨r,1,none⟩=some (.int .i64 (k:Int))
 c2:w.cell? ⟨r,2,none⟩=some (.int .i64 (d:Int))
 c3:w.cell? ⟨r,3,none⟩=some (.int .i64 (what:Int))
 c4:w.cell? ⟨r,4,none⟩=some (.int .i64 (pos:Int))
 c5:w.cell? ⟨r,5,none⟩=some (.string ⟨#[]⟩)
 lt:r<w.heap.size
 fz:∀j,w.frozen? ⟨r,j,none⟩=false
 gl:g<w.heap.size
 ne:g≠r
 tks:∀j u,((PredP.toks (bs s)).flatMap (tokC s))[j]?=some u→w.cell? ⟨g,j,none⟩=some u
 tk:(PredP.toks (bs s))[k]?=some t
theorem toks_cells (s:ByteArray):∀(l:List PredP.Tok) (k:Nat) (t:PredP.Tok),l[k]?=some t →
  (l.flatMap (tokC s))[k * 3]?=some (.string (kindB t.kind))∧(l.flatMap (tokC s))[k * 3+1]?=some (.string (textB s t))∧(l.flatMap (tokC s))[k * 3+2]?=some (.int .i64 (t.pos:Int))
 | [],k,t,h=>by simp at h
 | a::l,0,t,h=>by
  simp at h
  subst h
  rw[List.flatMap_cons]
  exact⟨rfl,rfl,rfl⟩
 | a::l,k+1,t,h=>by
  have:=toks_cells s l k t (by simpa using h)
  rw[List.flatMap_cons,show(k+1) * 3=3+k * 3 by omega,show 3+k * 3+1=3+(k * 3+1) by omega,show 3+k * 3+2=3+(k * 3+2) by omega]
  have hl:(tokC s a).length=3:=rfl
  rw[List.getElem?_append_right (by omega),List.getElem?_append_right (by omega),List.getElem?_append_right (by omega),hl]
  simpa using this
theorem XRd.tok {r g cap:Nat} {s:ByteArray} {k:Nat} {t:PredP.Tok} {d what pos:Nat} {w:World} (h:XRd r g cap s k t d what pos w) :
  w.cell? ⟨g,k * 3,none⟩=some (.string (kindB t.kind))∧w.cell? ⟨g,k * 3+1,none⟩=some (.string (textB s t))∧w.cell? ⟨g,k * 3+2,none⟩=some (.int .i64 (t.pos:Int))∧k<(PredP.toks (bs s)).length:=by
 obtain⟨a,b,c⟩:=toks_cells s _ k t h.tk
 exact⟨h.tks _ _ a,h.tks _ _ b,h.tks _ _ c,(List.getElem?_eq_some_iff.1 h.tk).1⟩
theorem XRd.below {r g cap:Nat} {s:ByteArray} {k:Nat} {t:PredP.Tok} {d what pos:Nat} {w w':World} (h:XRd r g cap s k t d what pos w) (hb:Below w.heap.size w w'):XRd r g cap s k t d what pos w' :=
 have q:=fun k=>hb.cell (p:=⟨r,k,none⟩) h.lt
 ⟨(q 0).trans h.c0,(q 1).trans h.c1,(q 2).trans h.c2,(q 3).trans h.c3,(q 4).trans h.c4,(q 5).trans h.c5,Nat.lt_of_lt_of_le h.lt hb.size,fun k=>(hb.frozen (p:=⟨r,k,none⟩) h.lt).trans (h.fz k),Nat.lt_of_lt_of_le h.gl hb.size,h.ne,fun j u hu=>(hb.cell (p:=⟨g,j,none⟩) h.gl).trans (h.tks j u hu),h.tk⟩
theorem XRd.drew {r g cap:Nat} {s:ByteArray} {k:Nat} {t:PredP.Tok} {d what pos:Nat} {w:World} (h:XRd r g cap s k t d what pos w):XRd r g cap s k t d what pos w.drew :=
 ⟨h.c0,h.c1,h.c2,h.c3,h.c4,h.c5,h.lt,h.fz,h.gl,h.ne,h.tks,h.tk⟩
theorem is_any (r g cap:Nat) (s:ByteArray) (k:Nat) (t:PredP.Tok) (d what pos:Nat) (w:World) (h:XRd r g cap s k t d what pos w) (b:ByteArray) (o:Bool) (ho:Hid ((what==0&&(kindB t.kind).toList==b.toList)=o)) :
  Calls Tryz.prog 31 #[.pointer (some ⟨r,0,none⟩),.string b] w fun e w'=>e=.returned (.bool o)∧Below w.heap.size w w':=by
 obtain⟨e0,e1,e2,hk⟩:=h.tok
 obtain⟨c0,c1,c2,c3,c4,c5,lt,fz,gl,ne,_,_⟩:=h
 by_cases hw:what=0
 ·subst hw
  obtain⟨z,hz⟩:∃z,((kindB t.kind).toList==b.toList)=z:=⟨_,rfl⟩
  have ho':=ho.out
  rw[hz]at ho'
  simp only[BEq.rfl,Bool.true_and]at ho'
  subst ho'
  clear ho
  go_enter Tryz.func31,Tryz.ntmps31
  go_wp2_with fail
  go_region
  all_goals go_wp2
  all_goals go_ret
  all_goals exact⟨rfl,(Below.refl _ _).drew⟩
 ·have hw':((what:Int)==0)=false:=by simpa using hw
  have ho':=ho.out
  have:(what==0)=false:=by simpa using hw
  rw[this,Bool.false_and]at ho'
  subst ho'
  clear ho this
  go_enter Tryz.func31,Tryz.ntmps31
  go_wp2_with fail
  go_region
  all_goals go_wp2
  all_goals go_ret
  all_goals exact⟨rfl,(Below.refl _ _).drew⟩
theorem XRd.wrong {r g cap:Nat} {s:ByteArray} {k:Nat} {t:PredP.Tok} {d what pos:Nat} {w w':World} (h:XRd r g cap s k t d what pos w) (n p:Nat) (hw:w'=(((w.setCell ⟨r,3,none⟩ (.int .i64 (n:Int))).setCell ⟨r,4,none⟩ (.int .i64 (p:Int))).setCell ⟨r,5,none⟩ (.string ⟨#[]⟩))):XRd r g cap s k t d n p w'∧But r w w':=by
 subst hw
 obtain⟨c0,c1,c2,c3,c4,c5,lt,fz,gl,ne,tks,tk⟩:=h
 refine⟨⟨?_,?_,?_,?_,?_,?_,by simp[World.setCell];exact lt,fun k=>by simp only[World.frozen?_setCell];exact fz k,by simp[World.setCell];exact gl,ne,?_,tk⟩,(((But.refl r w).setCell rfl _).setCell rfl _).setCell rfl _⟩
 all_goals first | (simp[go_sem,c0,c1,c2,c3,c4,c5];done) | skip
 intro j u hu
 rw[World.cell?_of_block (a:=⟨g,j,none⟩) (Below.heap_setCell _ _ _ _ (by simpa using ne)),World.cell?_of_block (a:=⟨g,j,none⟩) (Below.heap_setCell _ _ _ _ (by simpa using ne)),World.cell?_of_block (a:=⟨g,j,none⟩) (Below.heap_setCell _ _ _ _ (by simpa using ne))]
 exact tks j u hu
theorem XRd.goes {r g cap:Nat} {s:ByteArray} {k k':Nat} {t t':PredP.Tok} {d what pos:Nat} {w w':World} (h:XRd r g cap s k t d what pos w) (hw:w'=w.setCell ⟨r,1,none⟩ (.int .i64 (k':Int))) (ht:(PredP.toks (bs s))[k']?=some t'):XRd r g cap s k' t' d what pos w'∧But r w w':=by
 subst hw
 obtain⟨c0,c1,c2,c3,c4,c5,lt,fz,gl,ne,tks,tk⟩:=h
 refine⟨⟨?_,?_,?_,?_,?_,?_,by simp[World.setCell];exact lt,fun k=>by simp only[World.frozen?_setCell];exact fz k,by simp[World.setCell];exact gl,ne,?_,ht⟩,(But.refl r w).setCell rfl _⟩
 all_goals first | (simp[go_sem,c0,c1,c2,c3,c4,c5];done) | skip
 intro j u hu
 rw[World.cell?_of_block (a:=⟨g,j,none⟩) (Below.heap_setCell _ _ _ _ (by simpa using ne))]
 exact tks j u hu
theorem XRd.deeps {r g cap:Nat} {s:ByteArray} {k:Nat} {t:PredP.Tok} {d d' what pos:Nat} {w w':World} (h:XRd r g cap s k t d what pos w) (hw:w'=w.setCell ⟨r,2,none⟩ (.int .i64 (d':Int))):XRd r g cap s k t d' what pos w'∧But r w w':=by
 subst hw
 obtain⟨c0,c1,c2,c3,c4,c5,lt,fz,gl,ne,tks,tk⟩:=h
 refine⟨⟨?_,?_,?_,?_,?_,?_,by simp[World.setCell];exact lt,fun k=>by simp only[World.frozen?_setCell];exact fz k,by simp[World.setCell];exact gl,ne,?_,tk⟩,(But.refl r w).setCell rfl _⟩
 all_goals first | (simp[go_sem,c0,c1,c2,c3,c4,c5];done) | skip
 intro j u hu
 rw[World.cell?_of_block (a:=⟨g,j,none⟩) (Below.heap_setCell _ _ _ _ (by simpa using ne))]
 exact tks j u hu
theorem wrong_first (r g cap:Nat) (s:ByteArray) (k:Nat) (t:PredP.Tok) (d pos:Nat) (w:World) (h:XRd r g cap s k t d 0 pos w) (n:Nat) :
  Calls Tryz.prog 52 #[.pointer (some ⟨r,0,none⟩),.int .i64 (n:Int)] w fun e w'=>e=.returned (.tuple #[])∧XRd r g cap s k t d n t.pos w'∧But r w w':=by
 obtain⟨e0,e1,e2,hk⟩:=h.tok
 obtain⟨c0,c1,c2,c3,c4,c5,lt,fz,gl,ne,_,_⟩:=id h
 go_enter Tryz.func52,Tryz.ntmps52
 go_wp2_with fail
 go_region
 all_goals go_wp2
 all_goals go_end0
 all_goals
  obtain⟨a,b⟩:=h.wrong n t.pos rfl
  exact⟨rfl,a.drew,b.drew⟩
theorem wrong_more (r g cap:Nat) (s:ByteArray) (k:Nat) (t:PredP.Tok) (d what pos:Nat) (w:World) (h:XRd r g cap s k t d what pos w) (hw:what≠0) (n:Nat) :
  Calls Tryz.prog 52 #[.pointer (some ⟨r,0,none⟩),.int .i64 (n:Int)] w fun e w'=>e=.returned (.tuple #[])∧w'=w:=by
 obtain⟨c0,c1,c2,c3,c4,c5,lt,fz,gl,ne,_,_⟩:=id h
 have hw':((what:Int)==0)=false:=by simpa using hw
 go_enter Tryz.func52,Tryz.ntmps52
 go_wp2
 go_end0
 exact⟨rfl,rfl⟩
def tokA (s:ByteArray) (t:PredP.Tok):Value:=.agg #[.string (kindB t.kind),.string (textB s t),.int .i64 (t.pos:Int)]
structure Two (w:World) (x y z:Value) (W:World):Prop where
 below:Below w.heap.size w W
 size:W.heap.size=w.heap.size+2
 b0:W.cell? ⟨w.heap.size+1,0,none⟩=some x
 b1:W.cell? ⟨w.heap.size+1,1,none⟩=some y
 b2:W.cell? ⟨w.heap.size+1,2,none⟩=some z
 a0:∃u,W.cell? ⟨w.heap.size,0,none⟩=some u
 a1:∃u,W.cell? ⟨w.heap.size,1,none⟩=some u
 a2:∃u,W.cell? ⟨w.heap.size,2,none⟩=some u
 fz:∀k,W.frozen? ⟨w.heap.size,k,none⟩=false
theorem xtwo_new (w:World) (x y z u v r:Value) (ty ty':Nat):Two w x y z ((w.alloc (.cells #[u,v,r] ty)).alloc (.cells #[x,y,z] ty')).drew:=by
 have hB:Below w.heap.size w ((w.alloc (.cells #[u,v,r] ty)).alloc (.cells #[x,y,z] ty')).drew:=(((Below.refl _ w).alloc (Nat.le_refl _) _).alloc (by simp) _).drew
 have h1:((w.alloc (.cells #[u,v,r] ty)).alloc (.cells #[x,y,z] ty')).heap[w.heap.size+1]?=some (.cells #[x,y,z] ty'):=by
  have:=heap_alloc_new (w.alloc (.cells #[u,v,r] ty)) (.cells #[x,y,z] ty')
  rwa[World.size_alloc]at this
 have h0:((w.alloc (.cells #[u,v,r] ty)).alloc (.cells #[x,y,z] ty')).heap[w.heap.size]?=some (.cells #[u,v,r] ty):=by
  rw[Below.heap_alloc _ _ _ (by simp),heap_alloc_new]
 refine⟨hB,by simp[World.drew],?_,?_,?_,⟨u,?_⟩,⟨v,?_⟩,⟨r,?_⟩,fun k=>?_⟩
 all_goals simp only[World.cell?,World.frozen?,World.drew,h0,h1]
 all_goals simp
theorem But.setNew {r:Nat} {a w:World} (h:But r a w) {p:Addr} (hp:a.heap.size≤p.block) (u:Value):But r a (w.setCell p u) :=
 ⟨h.os,h.tape,h.output,by simpa[World.setCell] using h.size,fun k hk hr=>(Below.heap_setCell _ _ _ _ (by omega)).trans (h.block k hk hr)⟩
theorem XRd.other {r g cap:Nat} {s:ByteArray} {k:Nat} {t:PredP.Tok} {d what pos:Nat} {w:World} (h:XRd r g cap s k t d what pos w) {p:Addr} (hr:r≠p.block) (hg:g≠p.block) (u:Value):XRd r g cap s k t d what pos (w.setCell p u) :=
 have q:=fun k=>World.cell?_of_block (a:=⟨r,k,none⟩) (Below.heap_setCell w p u r hr)
 ⟨(q 0).trans h.c0,(q 1).trans h.c1,(q 2).trans h.c2,(q 3).trans h.c3,(q 4).trans h.c4,(q 5).trans h.c5,by simpa[World.setCell] using h.lt,fun k=>by rw[World.frozen?_setCell];exact h.fz k,by simpa[World.setCell] using h.gl,h.ne,fun j v hv=>(World.cell?_of_block (a:=⟨g,j,none⟩) (Below.heap_setCell w p u g hg)).trans (h.tks j v hv),h.tk⟩
theorem need_yes (r g cap:Nat) (s:ByteArray) (k:Nat) (t t':PredP.Tok) (d pos:Nat) (w:World) (h:XRd r g cap s k t d 0 pos w) (b:ByteArray) (hb:(kindB t.kind).toList==b.toList) (ht:(PredP.toks (bs s))[k+1]?=some t') (hs:s.size≤400) :
  Calls Tryz.prog 32 #[.pointer (some ⟨r,0,none⟩),.string b] w fun e w'=>e=.returned (tokA s t)∧XRd r g cap s (k+1) t' d 0 pos w'∧But r w w':=by
 obtain⟨e0,e1,e2,hk⟩:=h.tok
 have hlen:=PredP.toks_length (bs s)
 rw[PredP.bs_length]at hlen
 obtain⟨c0,c1,c2,c3,c4,c5,lt,fz,gl,ne,_,_⟩:=id h
 go_enter Tryz.func32,Tryz.ntmps32
 go_wp2_with fail
 go_region
 have hT:=xtwo_new w (.string (kindB t.kind)) (.string (textB s t)) (.int .i64 (t.pos:Int)) (.string ⟨#[]⟩) (.string ⟨#[]⟩) (.int .i64 0) 81 81
 generalize ((w.alloc (.cells #[.string ⟨#[]⟩,.string ⟨#[]⟩,.int .i64 0] 81)).alloc (.cells #[.string (kindB t.kind),.string (textB s t),.int .i64 (t.pos:Int)] 81)).drew=W at hT ⊢
 have hx:=h.below hT.below
 clear e0 e1 e2 c0 c1 c2 c3 c4 c5 fz
 go_wp2_with (go_at_call 31;refine(is_any r g cap s k t d 0 pos _ hx b true (hide (by simpa using hb))).mono ?_;rintro e w1 ⟨rfl,hb1⟩;have hx1:=hx.below hb1;have q1:=hx1.c1;have qf:=hx1.fz;obtain⟨hc1,hf1⟩:=bcell hb1;have hsz:=hT.size;have b0:=hT.b0;have b1:=hT.b1;have b2:=hT.b2;obtain⟨_,a0⟩:=hT.a0;obtain⟨_,a1⟩:=hT.a1;obtain⟨_,a2⟩:=hT.a2;have fz:=hT.fz)
 obtain⟨hx2,hb2⟩:=hx1.goes (k':=k+1) rfl ht
 have hb3:But r w (w1.setCell ⟨r,1,none⟩ (.int .i64 ((k+1:Nat):Int))):=((But.of_below hT.below).trans (But.of_below hb1)).trans hb2
 exact bodyPost_ret (v:=tokA s t) (by simp[results,Tryz.results32,go_sem,tokA,a0,a1,a2,hc1,hsz]) rfl ⟨rfl,((hx2.other (p:=⟨w.heap.size,0,none⟩) (by simp;omega) (by simp;omega) _).other (p:=⟨w.heap.size,1,none⟩) (by simp;omega) (by simp;omega) _).other (p:=⟨w.heap.size,2,none⟩) (by simp;omega) (by simp;omega) _,((hb3.setNew (p:=⟨w.heap.size,0,none⟩) (Nat.le_refl _) _).setNew (p:=⟨w.heap.size,1,none⟩) (Nat.le_refl _) _).setNew (p:=⟨w.heap.size,2,none⟩) (Nat.le_refl _) _⟩
theorem need_no (r g cap:Nat) (s:ByteArray) (k:Nat) (t:PredP.Tok) (d pos:Nat) (w:World) (h:XRd r g cap s k t d 0 pos w) (b:ByteArray) (hb:((kindB t.kind).toList==b.toList)=false) :
  Calls Tryz.prog 32 #[.pointer (some ⟨r,0,none⟩),.string b] w fun e w'=>e=.returned (tokA s t)∧XRd r g cap s k t d 4 t.pos w'∧But r w w':=by
 obtain⟨e0,e1,e2,hk⟩:=h.tok
 obtain⟨c0,c1,c2,c3,c4,c5,lt,fz,gl,ne,_,_⟩:=id h
 go_enter Tryz.func32,Tryz.ntmps32
 go_wp2_with fail
 go_region
 have hT:=xtwo_new w (.string (kindB t.kind)) (.string (textB s t)) (.int .i64 (t.pos:Int)) (.string ⟨#[]⟩) (.string ⟨#[]⟩) (.int .i64 0) 81 81
 generalize ((w.alloc (.cells #[.string ⟨#[]⟩,.string ⟨#[]⟩,.int .i64 0] 81)).alloc (.cells #[.string (kindB t.kind),.string (textB s t),.int .i64 (t.pos:Int)] 81)).drew=W at hT ⊢
 have hx:=h.below hT.below
 clear e0 e1 e2 c0 c1 c2 c3 c4 c5 fz
 have hsz:=hT.size
 have b0:=hT.b0
 have b1:=hT.b1
 have b2:=hT.b2
 obtain⟨_,a0⟩:=hT.a0
 obtain⟨_,a1⟩:=hT.a1
 obtain⟨_,a2⟩:=hT.a2
 have fz:=hT.fz
 go_wp2_with (first
  | (go_at_call 31;refine(is_any r g cap s k t d 0 pos _ hx b false (hide (by simpa using hb))).mono ?_;rintro e w1 ⟨rfl,hb1⟩;have hx1:=hx.below hb1)
  | (go_at_call 52;refine(wrong_first r g cap s k t d pos _ hx1 4).mono ?_;rintro e w2 ⟨rfl,hx2,hbut2⟩;have hb3:=(But.of_below (r:=r) hb1).trans hbut2;have hc2:=fun(b o:Nat) (h1:b<W.heap.size) (h2:b≠r)=>hb3.cell (o:=o) h1 h2;have hf2:=fun(b o:Nat) (h1:b<W.heap.size) (h2:b≠r)=>World.frozen?_of_block (a:=⟨b,o,none⟩) (hb3.block b h1 h2);have hrw:r≠w.heap.size:=(by omega);have hrw':w.heap.size≠r:=(by omega);have hrw2:w.heap.size+1≠r:=(by omega)))
 have hb4:=(But.of_below (r:=r) hT.below).trans hb3
 exact bodyPost_ret (v:=tokA s t) (by simp[results,Tryz.results32,go_sem,tokA,a0,a1,a2,hc2,hsz,hrw']) rfl ⟨rfl,((hx2.other (p:=⟨w.heap.size,0,none⟩) (by simp;omega) (by simp;omega) _).other (p:=⟨w.heap.size,1,none⟩) (by simp;omega) (by simp;omega) _).other (p:=⟨w.heap.size,2,none⟩) (by simp;omega) (by simp;omega) _,((hb4.setNew (p:=⟨w.heap.size,0,none⟩) (Nat.le_refl _) _).setNew (p:=⟨w.heap.size,1,none⟩) (Nat.le_refl _) _).setNew (p:=⟨w.heap.size,2,none⟩) (Nat.le_refl _) _⟩
theorem need_more (r g cap:Nat) (s:ByteArray) (k:Nat) (t:PredP.Tok) (d what pos:Nat) (hw:what≠0) (w:World) (h:XRd r g cap s k t d what pos w) (b:ByteArray) :
  Calls Tryz.prog 32 #[.pointer (some ⟨r,0,none⟩),.string b] w fun e w'=>e=.returned (tokA s t)∧XRd r g cap s k t d what pos w'∧But r w w':=by
 obtain⟨e0,e1,e2,hk⟩:=h.tok
 obtain⟨c0,c1,c2,c3,c4,c5,lt,fz,gl,ne,_,_⟩:=id h
 go_enter Tryz.func32,Tryz.ntmps32
 go_wp2_with fail
 go_region
 have hT:=xtwo_new w (.string (kindB t.kind)) (.string (textB s t)) (.int .i64 (t.pos:Int)) (.string ⟨#[]⟩) (.string ⟨#[]⟩) (.int .i64 0) 81 81
 generalize ((w.alloc (.cells #[.string ⟨#[]⟩,.string ⟨#[]⟩,.int .i64 0] 81)).alloc (.cells #[.string (kindB t.kind),.string (textB s t),.int .i64 (t.pos:Int)] 81)).drew=W at hT ⊢
 have hx:=h.below hT.below
 clear e0 e1 e2 c0 c1 c2 c3 c4 c5 fz
 have hsz:=hT.size
 have b0:=hT.b0
 have b1:=hT.b1
 have b2:=hT.b2
 obtain⟨_,a0⟩:=hT.a0
 obtain⟨_,a1⟩:=hT.a1
 obtain⟨_,a2⟩:=hT.a2
 have fz:=hT.fz
 go_wp2_with (first
  | (go_at_call 31;refine(is_any r g cap s k t d what pos _ hx b false (hide (by simp[hw]))).mono ?_;rintro e w1 ⟨rfl,hb1⟩;have hx1:=hx.below hb1)
  | (go_at_call 52;refine(wrong_more r g cap s k t d what pos _ hx1 hw 4).mono ?_;rintro e w2 ⟨rfl,rfl⟩;obtain⟨hc1,hf1⟩:=bcell hb1))
 have hb4:=(But.of_below (r:=r) hT.below).trans (But.of_below hb1)
 exact bodyPost_ret (v:=tokA s t) (by simp[results,Tryz.results32,go_sem,tokA,a0,a1,a2,hc1,hsz]) rfl ⟨rfl,((hx1.other (p:=⟨w.heap.size,0,none⟩) (by simp;omega) (by simp;omega) _).other (p:=⟨w.heap.size,1,none⟩) (by simp;omega) (by simp;omega) _).other (p:=⟨w.heap.size,2,none⟩) (by simp;omega) (by simp;omega) _,((hb4.setNew (p:=⟨w.heap.size,0,none⟩) (Nat.le_refl _) _).setNew (p:=⟨w.heap.size,1,none⟩) (Nat.le_refl _) _).setNew (p:=⟨w.heap.size,2,none⟩) (Nat.le_refl _) _⟩
end
section
open Go.RowKit
def opB:PredP.XOp→ByteArray
 | .word=>⟨#[119,111,114,100]⟩
 | .name=>⟨#[110,97,109,101]⟩
 | .row=>⟨#[114,111,119]⟩
 | .bar=>⟨#[124]⟩
 | .opt=>⟨#[91]⟩
 | .loop=>⟨#[123]⟩
abbrev vS (s:Str):Value:=.string ⟨⟨s⟩⟩
theorem vS_bs (a:ByteArray):vS (bs a)=.string a:=rfl
abbrev expO (o:PredP.XOp) (pos:Int) (s:Str) (L B U:Value) (k id:Int):Obj :=
 .cells #[.string (opB o),.int .i64 pos,vS s,L,B,U,.int .i64 k,.int .i64 id] 132
def ptrC (l:List Nat):List Value:=l.map fun i=>.pointer (some ⟨i,0,none⟩)
def intC (l:List Nat):List Value:=l.map fun(i:Nat)=>.int .i64 (i:Int)
def noExp (w:World) (g:Nat):Prop:=∀cs f,w.heap[g]?≠some (.cells cs 132 f)
section
variable (okN okA:Nat→Prop) (w:World)
mutual
def xAt (tie:Option (Option Nat×Nat)):PredP.X→Prop
 | .mk i o p s b l=>okN i∧s.length≤400∧∃L B U,∃k id:Int,w.heap[i]?=some (expO o p s L B U k id)∧slAt okA w 1 L (ptrC l.ids)∧slAt okA w 1 B (intC b) ∧
   (∀x,tie=some x→U=.pointer (x.1.map fun j=>⟨j,0,none⟩)∧k=x.2)∧xsAt (tie.map fun x=>(some i,x.2)) l
def xsAt (tie:Option (Option Nat×Nat)):PredP.Xs→Prop
 | .nil=>True
 | .cons x l=>xAt tie x∧xsAt tie l
end
end
mutual
theorem xAt.carry {okN okA okN' okA':Nat→Prop} {w w':World} (hs:w.heap.size≤w'.heap.size) (hN:∀b,okN b→b<w.heap.size→okN' b∧w'.heap[b]?=w.heap[b]?) (hA:∀b,okA b→b<w.heap.size→okA' b∧w'.heap[b]?=w.heap[b]?):∀(x:PredP.X) (tie:Option (Option Nat×Nat)),xAt okN okA w tie x→xAt okN' okA' w' tie x
 | .mk i o p s b l,tie=>by
  unfold xAt
  rintro⟨h1,hl,L,B,U,k,id,h2,h3,h4,h5,h6⟩
  obtain⟨a1,a2⟩:=hN i h1 (Array.getElem?_eq_some_iff.1 h2).1
  exact⟨a1,hl,L,B,U,k,id,a2.trans h2,h3.carry hs hA,h4.carry hs hA,h5,xsAt.carry hs hN hA l _ h6⟩
theorem xsAt.carry {okN okA okN' okA':Nat→Prop} {w w':World} (hs:w.heap.size≤w'.heap.size) (hN:∀b,okN b→b<w.heap.size→okN' b∧w'.heap[b]?=w.heap[b]?) (hA:∀b,okA b→b<w.heap.size→okA' b∧w'.heap[b]?=w.heap[b]?):∀(l:PredP.Xs) (tie:Option (Option Nat×Nat)),xsAt okN okA w tie l→xsAt okN' okA' w' tie l
 | .nil,_=>by unfold xsAt;exact id
 | .cons x l,tie=>by
  unfold xsAt
  rintro⟨a,b⟩
  exact⟨xAt.carry hs hN hA x tie a,xsAt.carry hs hN hA l tie b⟩
end
mutual
theorem xAt.ids {okN okA:Nat→Prop} {w:World}:∀(x:PredP.X) (tie:Option (Option Nat×Nat)),xAt okN okA w tie x→∀i,i∈x.all→okN i∧i<w.heap.size
 | .mk i o p s b l,tie=>by
  unfold xAt
  rintro⟨h1,_,L,B,U,k,id,h2,_,_,_,h6⟩ j hj
  rw[PredP.X.all]at hj
  rcases List.mem_cons.1 hj with rfl | hj
  ·exact⟨h1,(Array.getElem?_eq_some_iff.1 h2).1⟩
  ·exact xsAt.ids l _ h6 j hj
theorem xsAt.ids {okN okA:Nat→Prop} {w:World}:∀(l:PredP.Xs) (tie:Option (Option Nat×Nat)),xsAt okN okA w tie l→∀i,i∈l.all→okN i∧i<w.heap.size
 | .nil,_=>by intro _ j hj;rw[PredP.Xs.all]at hj;cases hj
 | .cons x l,tie=>by
  unfold xsAt
  rintro⟨a,b⟩ j hj
  rw[PredP.Xs.all]at hj
  rcases List.mem_append.1 hj with hj | hj
  ·exact xAt.ids x tie a j hj
  ·exact xsAt.ids l tie b j hj
end
theorem xsAt.snoc {okN okA:Nat→Prop} {w:World} {tie:Option (Option Nat×Nat)} {x:PredP.X} (hx:xAt okN okA w tie x):∀l:PredP.Xs,xsAt okN okA w tie l→xsAt okN okA w tie (l.snoc x)
 | .nil,_=>by rw[PredP.Xs.snoc];unfold xsAt;exact⟨hx,by unfold xsAt;trivial⟩
 | .cons y l,h=>by
  unfold xsAt at h
  rw[PredP.Xs.snoc]
  unfold xsAt
  exact⟨h.1,xsAt.snoc hx l h.2⟩
structure NewX (n:Nat) (w:World) (x:PredP.X):Prop where
 at':xAt (fun b=>n≤b) (fun b=>n≤b∧noExp w b) w none x
 nd:x.all.Nodup
theorem own_noExp {w:World} {base size n g:Nat} {e:TypeId} {v:Value} {xs:List Value} (h:w.ownsRow base e size v n xs) (he:e≠132) (hg:v.ownBlock=some g):noExp w g:=by
 rcases h.2 with ⟨rfl,_⟩ | ⟨g',cap,cur,rfl,_,hg',_⟩
 ·cases hg
 ·cases hg
  intro cs f e'
  rw[hg']at e'
  injection e' with e'
  injection e' with _ e' _
  exact he e'
theorem own_slice {w:World} {base size n:Nat} {e:TypeId} {v:Value} {xs:List Value} (h:w.ownsRow base e size v n xs):∃a m c,v=.slice a m c:=by
 rcases h.2 with ⟨rfl,_⟩ | ⟨g,cap,_,rfl,_⟩
 ·exact⟨_,_,_,rfl⟩
 ·exact⟨_,_,_,rfl⟩
end
end Go.Proofs.YtpcmemcanpgadaaGreatDoor
