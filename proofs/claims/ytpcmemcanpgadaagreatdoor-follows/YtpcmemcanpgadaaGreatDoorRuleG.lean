import Derived.Test.YtpcmemcanpgadaaGreatDoorRowG
import Derived.Test.YtpcmemcanpgadaaGreatDoorPureB
import Derived.Deep.Cut
set_option maxHeartbeats 2000000
set_option maxRecDepth 100000
namespace Go.Proofs.YtpcmemcanpgadaaGreatDoor
open PredP (hide Str Rule bs)
section
open Go.RowKit
theorem Rd.drew_below {r:Nat} {s:ByteArray} {t:PredP.Tok} {d:Nat} {w w':World} (h:Rd r s t d w) (hb:Below w.drew.heap.size w.drew w'):Rd r s t d w':=h.drew.below hb
theorem Rd.alloc {r:Nat} {s:ByteArray} {t:PredP.Tok} {d:Nat} {w:World} (h:Rd r s t d w) (o:Obj):Rd r s t d (w.alloc o):=h.below ((Below.refl _ _).alloc (Nat.le_refl _) _)
def RulePost (r:Nat) (s:ByteArray) (w:World) (o:PredP.Out Rule) (e:Ending) (w':World):Prop :=
 But r w w'∧match o with
 | .ok q t'=>∃a v cs,e=.returned (.tuple #[.agg #[.string a,.int .i64 (q.pos:Int),v],.nilIface])∧bs a=q.name∧a.size≤400∧slAt (fun b=>w.heap.size≤b) w' 2 v cs∧rowsAt (fun b=>w.heap.size≤b) w' q.body cs∧Rd r s t' 0 w'
 | .bad p b=>∃x n va vn vc u,e=.returned (.tuple #[.agg #[.string x,.int .i64 n,.slice va vn vc],u])∧Syn w.heap.size w' u p b
structure Bl (r:Nat) (s:ByteArray) (t:PredP.Tok) (w:World) (b1:Nat) (v:Value) (W:World):Prop where
 but:But r w W
 rlt:r<w.heap.size
 ge:w.heap.size<b1
 lt:b1<W.heap.size
 o0:W.cell? ⟨b1,0,none⟩=some (.string (s.extract t.pos t.to))
 o1:W.cell? ⟨b1,1,none⟩=some (.int .i64 (t.pos:Int))
 o2:W.cell? ⟨b1,2,none⟩=some v
 of:∀k,W.frozen? ⟨b1,k,none⟩=false
 z0:W.cell? ⟨w.heap.size,0,none⟩=some (.string ⟨#[]⟩)
 z1:W.cell? ⟨w.heap.size,1,none⟩=some (.int .i64 0)
 z2:W.cell? ⟨w.heap.size,2,none⟩=some (.slice none 0 0)
 zf:∀k,W.frozen? ⟨w.heap.size,k,none⟩=false
theorem But.frozen {r:Nat} {w w':World} (h:But r w w') {b o:Nat} (hb:b<w.heap.size) (hr:b≠r):w'.frozen? ⟨b,o,none⟩=w.frozen? ⟨b,o,none⟩:=World.frozen?_of_block (a:=⟨b,o,none⟩) (h.block b hb hr)
theorem Bl.on {r:Nat} {s:ByteArray} {t:PredP.Tok} {w:World} {b1:Nat} {v:Value} {W W':World} (h:Bl r s t w b1 v W) (hb:But r W W'):Bl r s t w b1 v W':=by
 obtain⟨but,rlt,ge,lt,o0,o1,o2,of,z0,z1,z2,zf⟩:=h
 have q:w.heap.size<W.heap.size:=by omega
 exact⟨but.trans hb,rlt,ge,Nat.lt_of_lt_of_le lt hb.size,(hb.cell lt (by omega)).trans o0,(hb.cell lt (by omega)).trans o1,(hb.cell lt (by omega)).trans o2,fun k=>(hb.frozen lt (by omega)).trans (of k),
  (hb.cell q (by omega)).trans z0,(hb.cell q (by omega)).trans z1,(hb.cell q (by omega)).trans z2,fun k=>(hb.frozen q (by omega)).trans (zf k)⟩
def One (r:Nat) (s:ByteArray) (t:PredP.Tok) (w:World) (b1:Nat) (W:World):Prop:=Bl r s t w b1 (.slice none 0 0) W∧Rd r s t 0 W
theorem frozen_new {w:World} {cs:Array Value} {ty:Nat} (k:Nat):(w.alloc (.cells cs ty)).frozen? ⟨w.heap.size,k,none⟩=false:=by
 simp only[World.frozen?,heap_alloc_new]
 simp
theorem two_kept {w w1:World} {o:Obj} {x y z:Value} {ty:Nat} (hb:Below ((w.alloc o).alloc (.cells #[x,y,z] ty)).drew.heap.size ((w.alloc o).alloc (.cells #[x,y,z] ty)).drew w1) :
  w1.cell? ⟨w.heap.size+1,0,none⟩=some x∧w1.cell? ⟨w.heap.size+1,1,none⟩=some y∧w1.cell? ⟨w.heap.size+1,2,none⟩=some z ∧
  w1.frozen? ⟨w.heap.size+1,0,none⟩=false∧w1.frozen? ⟨w.heap.size+1,1,none⟩=false∧w1.frozen? ⟨w.heap.size+1,2,none⟩=false:=by
 have hl:w.heap.size+1<((w.alloc o).alloc (.cells #[x,y,z] ty)).drew.heap.size:=by show _<((w.alloc o).alloc _).heap.size;simp
 have hf:∀k,((w.alloc o).alloc (.cells #[x,y,z] ty)).frozen? ⟨w.heap.size+1,k,none⟩=false:=fun k=>by
  have:=frozen_new (w:=w.alloc o) (cs:=#[x,y,z]) (ty:=ty) k
  rwa[World.size_alloc]at this
 exact⟨(hb.cell (p:=⟨_,0,none⟩) hl).trans (cell_fresh2 rfl),(hb.cell (p:=⟨_,1,none⟩) hl).trans (cell_fresh2 rfl),(hb.cell (p:=⟨_,2,none⟩) hl).trans (cell_fresh2 rfl),
  (hb.frozen (p:=⟨_,0,none⟩) hl).trans (hf 0),(hb.frozen (p:=⟨_,1,none⟩) hl).trans (hf 1),(hb.frozen (p:=⟨_,2,none⟩) hl).trans (hf 2)⟩
theorem One.after {r:Nat} {s:ByteArray} {t:PredP.Tok} {w w1:World} {ty ty':Nat} (hr:r<w.heap.size) (hb:Below (w.alloc (.cells #[.string ⟨#[]⟩,.int .i64 0,.slice none 0 0] ty)).drew.heap.size (w.alloc (.cells #[.string ⟨#[]⟩,.int .i64 0,.slice none 0 0] ty)).drew w1) (hrd:Rd r s t 0 w1) :
  One r s t w w1.heap.size (w1.alloc (.cells #[.string (s.extract t.pos t.to),.int .i64 (t.pos:Int),.slice none 0 0] ty')):=by
 have hsz:w.heap.size+1≤w1.heap.size:=by have:=hb.size;simpa[World.drew] using this
 have hl:w.heap.size<(w.alloc (.cells #[.string ⟨#[]⟩,.int .i64 0,.slice none 0 0] ty)).drew.heap.size:=by show _<(w.alloc _).heap.size;simp
 have hB:Below w.heap.size w (w1.alloc (.cells #[.string (s.extract t.pos t.to),.int .i64 (t.pos:Int),.slice none 0 0] ty')) :=
  ((((Below.refl w.heap.size w).alloc (Nat.le_refl _) _).drew.trans (hb.mono (Nat.le_of_lt hl))).alloc (by omega) _)
 have hp:=fun k=>((Below.refl w1.heap.size w1).alloc (Nat.le_refl _) (.cells #[.string (s.extract t.pos t.to),.int .i64 (t.pos:Int),.slice none 0 0] ty')).cell (p:=⟨w.heap.size,k,none⟩) (by show w.heap.size<_;omega)
 refine⟨⟨But.of_below hB,hr,by omega,by simp,cell_fresh rfl,cell_fresh rfl,cell_fresh rfl,fun k=>frozen_new k,?_,?_,?_,fun k=>?_⟩,hrd.alloc _⟩
 ·exact(hp 0).trans ((hb.cell (p:=⟨_,0,none⟩) hl).trans (cell_fresh rfl))
 ·exact(hp 1).trans ((hb.cell (p:=⟨_,1,none⟩) hl).trans (cell_fresh rfl))
 ·exact(hp 2).trans ((hb.cell (p:=⟨_,2,none⟩) hl).trans (cell_fresh rfl))
 ·refine(World.frozen?_of_block (w:=w1) (a:=⟨w.heap.size,k,none⟩) (Below.heap_alloc w1 _ w.heap.size (by omega))).trans ?_
  exact(hb.frozen (p:=⟨_,k,none⟩) hl).trans (frozen_new k)
theorem One.ahead {r:Nat} {s:ByteArray} {t:PredP.Tok} {w w1:World} {ty ty':Nat} {x y z:Value} (hr:r<w.heap.size) (hb:Below ((w.alloc (.cells #[.string ⟨#[]⟩,.int .i64 0,.slice none 0 0] ty)).alloc (.cells #[x,y,z] ty')).drew.heap.size ((w.alloc (.cells #[.string ⟨#[]⟩,.int .i64 0,.slice none 0 0] ty)).alloc (.cells #[x,y,z] ty')).drew w1) (hrd:Rd r s t 0 w1) :
  One r s t w (w.heap.size+1) (((w1.setCell ⟨w.heap.size+1,0,none⟩ (.string (s.extract t.pos t.to))).setCell ⟨w.heap.size+1,1,none⟩ (.int .i64 (t.pos:Int))).setCell ⟨w.heap.size+1,2,none⟩ (.slice none 0 0)):=by
 have hsz:w.heap.size+2≤w1.heap.size:=by have:=hb.size;simpa[World.drew] using this
 have hl:w.heap.size<((w.alloc (.cells #[.string ⟨#[]⟩,.int .i64 0,.slice none 0 0] ty)).alloc (.cells #[x,y,z] ty')).drew.heap.size:=by show _<((w.alloc _).alloc _).heap.size;simp;omega
 obtain⟨z0,z1,z2,y0,y1,y2⟩:=two_kept hb
 have hB1:Below w.heap.size w w1:=(((Below.refl w.heap.size w).alloc (Nat.le_refl _) _).alloc (by simp) _).drew.trans (hb.mono (Nat.le_of_lt hl))
 have hB:Below w.heap.size w (((w1.setCell ⟨w.heap.size+1,0,none⟩ (.string (s.extract t.pos t.to))).setCell ⟨w.heap.size+1,1,none⟩ (.int .i64 (t.pos:Int))).setCell ⟨w.heap.size+1,2,none⟩ (.slice none 0 0)) :=
  ((hB1.setCell (p:=⟨w.heap.size+1,0,none⟩) (Nat.le_succ _) _).setCell (p:=⟨w.heap.size+1,1,none⟩) (Nat.le_succ _) _).setCell (p:=⟨w.heap.size+1,2,none⟩) (Nat.le_succ _) _
 have hBB:Below (w.heap.size+1) w1 (((w1.setCell ⟨w.heap.size+1,0,none⟩ (.string (s.extract t.pos t.to))).setCell ⟨w.heap.size+1,1,none⟩ (.int .i64 (t.pos:Int))).setCell ⟨w.heap.size+1,2,none⟩ (.slice none 0 0)) :=
  (((Below.refl _ w1).setCell (p:=⟨w.heap.size+1,0,none⟩) (Nat.le_refl _) _).setCell (p:=⟨w.heap.size+1,1,none⟩) (Nat.le_refl _) _).setCell (p:=⟨w.heap.size+1,2,none⟩) (Nat.le_refl _) _
 have hw1:∀k,((w.alloc (.cells #[.string ⟨#[]⟩,.int .i64 0,.slice none 0 0] ty)).alloc (.cells #[x,y,z] ty')).frozen? ⟨w.heap.size+1,k,none⟩=false:=fun k=>by
  have:=frozen_new (w:=w.alloc (.cells #[.string ⟨#[]⟩,.int .i64 0,.slice none 0 0] ty)) (cs:=#[x,y,z]) (ty:=ty') k
  rwa[World.size_alloc]at this
 have hl2:w.heap.size+1<((w.alloc (.cells #[.string ⟨#[]⟩,.int .i64 0,.slice none 0 0] ty)).alloc (.cells #[x,y,z] ty')).drew.heap.size:=by show _<((w.alloc _).alloc _).heap.size;simp
 refine⟨⟨But.of_below hB,hr,by omega,by simp[World.setCell];omega,?_,?_,?_,fun k=>?_,?_,?_,?_,fun k=>?_⟩,?_⟩
 ·simp[go_sem,z0]
 ·simp[go_sem,z1]
 ·simp[go_sem,z2]
 ·simp only[World.frozen?_setCell];exact(hb.frozen (p:=⟨_,k,none⟩) hl2).trans (hw1 k)
 ·exact(hBB.cell (p:=⟨_,0,none⟩) (Nat.lt_succ_self _)).trans ((hb.cell (p:=⟨_,0,none⟩) hl).trans (past_fresh rfl))
 ·exact(hBB.cell (p:=⟨_,1,none⟩) (Nat.lt_succ_self _)).trans ((hb.cell (p:=⟨_,1,none⟩) hl).trans (past_fresh rfl))
 ·exact(hBB.cell (p:=⟨_,2,none⟩) (Nat.lt_succ_self _)).trans ((hb.cell (p:=⟨_,2,none⟩) hl).trans (past_fresh rfl))
 ·refine(hBB.frozen (p:=⟨_,k,none⟩) (Nat.lt_succ_self _)).trans ((hb.frozen (p:=⟨_,k,none⟩) hl).trans ?_)
  refine(World.frozen?_of_block (a:=⟨w.heap.size,k,none⟩) (Below.heap_alloc _ _ _ (by simp))).trans (frozen_new k)
 ·have q:=fun k=>hBB.cell (p:=⟨r,k,none⟩) (show r<_ by omega)
  exact⟨(q 0).trans hrd.c0,(q 1).trans hrd.c1,(q 2).trans hrd.c2,(q 3).trans hrd.c3,(q 4).trans hrd.c4,Nat.lt_of_lt_of_le hrd.lt hBB.size,fun k=>(hBB.frozen (p:=⟨r,k,none⟩) (show r<_ by omega)).trans (hrd.fz k)⟩
theorem But.store {r:Nat} {w W:World} (h:But r w W) {p:Addr} (hp:w.heap.size≤p.block) (u:Value):But r w (W.setCell p u) :=
 h.of_grown (row:=some p.block) ⟨rfl,rfl,rfl,by simp[World.setCell],fun k _ hne=>Below.heap_setCell _ _ _ _ (fun e=>hne (by rw[e]))⟩ (fun k e=>by cases e;exact hp)
theorem Syn.store {lo:Nat} {w:World} {v:Value} {p:Nat} {deep:Bool} (h:Syn lo w v p deep) {a:Addr} (ha:a.block<lo) (u:Value):Syn lo (w.setCell a u) v p deep:=by
 obtain⟨b,e,h1,h2,h3,h4⟩:=h
 have q:(w.setCell a u).heap[b]?=w.heap[b]?:=Below.heap_setCell _ _ _ _ (by omega)
 exact⟨b,e,h1,by simpa[World.setCell] using h2,(World.cell?_of_block (a:=⟨b,0,none⟩) q).trans h3,(World.cell?_of_block (a:=⟨b,1,none⟩) q).trans h4⟩
theorem rule_bad {r:Nat} {s:ByteArray} {w W:World} {o:PredP.Out Rule} {p:Nat} {b:Bool} {u x1 x2 x3:Value} {x:ByteArray} {n:Int} {va:Option Addr} {vn vc lo:Nat} (ho:o=.bad p b) (hb:But r w W) (hu:Syn lo W u p b) (hlo:w.heap.size<lo) :
  RulePost r s w o (.returned (.tuple #[.agg #[.string x,.int .i64 n,.slice va vn vc],u])) (((W.setCell ⟨w.heap.size,0,none⟩ x1).setCell ⟨w.heap.size,1,none⟩ x2).setCell ⟨w.heap.size,2,none⟩ x3):=by
 refine⟨((hb.store (p:=⟨w.heap.size,0,none⟩) (Nat.le_refl _) _).store (p:=⟨w.heap.size,1,none⟩) (Nat.le_refl _) _).store (p:=⟨w.heap.size,2,none⟩) (Nat.le_refl _) _,?_⟩
 subst ho
 exact⟨_,_,_,_,_,u,rfl,(((hu.store (a:=⟨w.heap.size,0,none⟩) hlo _).store (a:=⟨w.heap.size,1,none⟩) hlo _).store (a:=⟨w.heap.size,2,none⟩) hlo _).mono (Nat.le_of_lt hlo)⟩
theorem Bl.stored {r:Nat} {s:ByteArray} {t:PredP.Tok} {w:World} {b1:Nat} {v:Value} {W:World} (h:Bl r s t w b1 v W) (u:Value):Bl r s t w b1 u (W.setCell ⟨b1,2,none⟩ u):=by
 obtain⟨but,rlt,ge,lt,o0,o1,o2,of,z0,z1,z2,zf⟩:=h
 have q:∀k,k≠b1→(W.setCell ⟨b1,2,none⟩ u).heap[k]?=W.heap[k]?:=fun k hk=>Below.heap_setCell _ _ _ _ hk
 have hne:w.heap.size≠b1:=by omega
 refine⟨but.store (p:=⟨b1,2,none⟩) (Nat.le_of_lt ge) u,rlt,ge,by simpa[World.setCell] using lt,?_,?_,by simp[go_sem,o2],fun k=>by simp only[World.frozen?_setCell];exact of k,
  (World.cell?_of_block (a:=⟨w.heap.size,0,none⟩) (q _ hne)).trans z0,(World.cell?_of_block (a:=⟨w.heap.size,1,none⟩) (q _ hne)).trans z1,(World.cell?_of_block (a:=⟨w.heap.size,2,none⟩) (q _ hne)).trans z2,fun k=>by simp only[World.frozen?_setCell];exact zf k⟩
 ·simp[go_sem,o0]
 ·simp[go_sem,o1]
theorem Rd.stored {r:Nat} {s:ByteArray} {t:PredP.Tok} {d:Nat} {w:World} (h:Rd r s t d w) {p:Addr} (hp:r≠p.block) (u:Value):Rd r s t d (w.setCell p u) :=
 h.grown (row:=some p.block) ⟨rfl,rfl,rfl,by simp[World.setCell],fun k _ hne=>Below.heap_setCell _ _ _ _ (fun e=>hne (by rw[e]))⟩ (fun e=>hp (by simpa using e))
theorem rule_good {r:Nat} {s:ByteArray} {w w3 w4 W:World} {o:PredP.Out Rule} {t t':PredP.Tok} {e:PredP.Rows} {x1 x2 x3:Value} {v:Value} {cs:List Value} (hs:s.size≤400) (ho:o=.ok ⟨PredP.cut (bs s) t.pos t.to,t.pos,e⟩ t') (hr:r<w.heap.size) (hb:But r w W) (hb4:∀b,w3.heap.size≤b→b<w4.heap.size→W.heap[b]?=w4.heap[b]?) (hsz:w4.heap.size≤W.heap.size) (hrd:Rd r s t' 0 W) (h3:w.heap.size<w3.heap.size)
  (hsl:slAt (fun b=>w3.heap.size≤b) w4 2 v cs) (hrows:rowsAt (fun b=>w3.heap.size≤b) w4 e cs) :
  RulePost r s w o (.returned (.tuple #[.agg #[.string (s.extract t.pos t.to),.int .i64 (t.pos:Int),v],.nilIface])) (((W.setCell ⟨w.heap.size,0,none⟩ x1).setCell ⟨w.heap.size,1,none⟩ x2).setCell ⟨w.heap.size,2,none⟩ x3):=by
 refine⟨((hb.store (p:=⟨w.heap.size,0,none⟩) (Nat.le_refl _) _).store (p:=⟨w.heap.size,1,none⟩) (Nat.le_refl _) _).store (p:=⟨w.heap.size,2,none⟩) (Nat.le_refl _) _,?_⟩
 subst ho
 have q:∀k,k≠w.heap.size→(((W.setCell ⟨w.heap.size,0,none⟩ x1).setCell ⟨w.heap.size,1,none⟩ x2).setCell ⟨w.heap.size,2,none⟩ x3).heap[k]?=W.heap[k]?:=fun k hk =>
  (Below.heap_setCell _ _ _ _ hk).trans ((Below.heap_setCell _ _ _ _ hk).trans (Below.heap_setCell _ _ _ _ hk))
 have hz:w4.heap.size≤(((W.setCell ⟨w.heap.size,0,none⟩ x1).setCell ⟨w.heap.size,1,none⟩ x2).setCell ⟨w.heap.size,2,none⟩ x3).heap.size:=by simpa[World.setCell] using hsz
 have hcar:∀b,w3.heap.size≤b→b<w4.heap.size→w.heap.size≤b∧(((W.setCell ⟨w.heap.size,0,none⟩ x1).setCell ⟨w.heap.size,1,none⟩ x2).setCell ⟨w.heap.size,2,none⟩ x3).heap[b]?=w4.heap[b]?:=fun b h1 h2=>⟨by omega,(q b (by omega)).trans (hb4 b h1 h2)⟩
 exact⟨_,v,cs,rfl,bs_extract _ _ _,by rw[ByteArray.size_extract];omega,slAt.carry hz hcar hsl,rowsAt.carry hz hcar _ _ hrows,((hrd.stored (p:=⟨w.heap.size,0,none⟩) (show r≠w.heap.size by omega) _).stored (p:=⟨w.heap.size,1,none⟩) (show r≠w.heap.size by omega) _).stored (p:=⟨w.heap.size,2,none⟩) (show r≠w.heap.size by omega) _⟩
theorem ruleF_no97 {l:Str} {n:Nat} {t:PredP.Tok} (h:t.kind≠97):PredP.ruleF l n t=.bad t.pos false:=by unfold PredP.ruleF;rw[if_neg h]
theorem ruleF_no61 {l:Str} {n:Nat} {t:PredP.Tok} (h:t.kind=97) (h1:(PredP.tokFrom l t.to).kind≠61):PredP.ruleF l n t=.bad (PredP.tokFrom l t.to).pos false:=by unfold PredP.ruleF;rw[if_pos h,if_neg h1]
theorem ruleF_bad {l:Str} {n p:Nat} {b:Bool} {t:PredP.Tok} (h:t.kind=97) (h1:(PredP.tokFrom l t.to).kind=61) (he:PredP.expF l n 0 0 (PredP.tokFrom l (PredP.tokFrom l t.to).to)=.bad p b):PredP.ruleF l n t=.bad p b:=by unfold PredP.ruleF;rw[if_pos h,if_pos h1,he]
theorem ruleF_no46 {l:Str} {n:Nat} {t t3:PredP.Tok} {e:PredP.Rows} (h:t.kind=97) (h1:(PredP.tokFrom l t.to).kind=61) (he:PredP.expF l n 0 0 (PredP.tokFrom l (PredP.tokFrom l t.to).to)=.ok e t3) (h3:t3.kind≠46):PredP.ruleF l n t=.bad t3.pos false:=by unfold PredP.ruleF;rw[if_pos h,if_pos h1,he];simp only[h3,if_false]
theorem ruleF_yes {l:Str} {n:Nat} {t t3:PredP.Tok} {e:PredP.Rows} (h:t.kind=97) (h1:(PredP.tokFrom l t.to).kind=61) (he:PredP.expF l n 0 0 (PredP.tokFrom l (PredP.tokFrom l t.to).to)=.ok e t3) (h3:t3.kind=46):PredP.ruleF l n t=.ok ⟨PredP.cut l t.pos t.to,t.pos,e⟩ (PredP.tokFrom l t3.to):=by unfold PredP.ruleF;rw[if_pos h,if_pos h1,he];simp only[h3,if_true]
theorem rule_any (s:ByteArray) (hs:s.size≤400) (N r:Nat) (t:PredP.Tok) (w:World) (hrd:Rd r s t 0 w) (htok:PredP.IsTok (bs s) t) (hen:2 * (s.size - t.pos)≤N+1) :
  Calls Tryz.prog 69 #[.pointer (some ⟨r,0,none⟩)] w (RulePost r s w (PredP.ruleF (bs s) (N+1) t)):=by
 have hfit:=htok.fits
 have hto:t.to≤s.size:=by have:=hfit.2.1;rwa[PredP.bs_length]at this
 have hle:=hfit.1
 have hr1:∀o,Rd r s t 0 (w.alloc o):=fun o=>hrd.below ((Below.refl _ _).alloc (Nat.le_refl _) _)
 have hr2:∀o o',Rd r s t 0 ((w.alloc o).alloc o'):=fun o o'=>(hr1 o).below ((Below.refl _ _).alloc (Nat.le_refl _) _)
 have k1:=fun o=>(hr1 o).c2
 have k2:=fun o o'=>(hr2 o o').c2
 obtain⟨c0,c1,c2,c3,c4,lt,fz⟩:=id hrd
 have HR1:=hide hr1
 have HR2:=hide hr2
 clear hr1 hr2
 go_enter Tryz.func69,Tryz.ntmps69
 go_upto_region 1 with fail
 go_cut [4] from 9 (fun s4 wc=>∃b1,s4=.pointer (some ⟨b1,0,none⟩)∧One r s t w b1 wc)
 case first =>
  go_region_law (go_simp;go_at_call 106;refine(text_any r s t 0 _ hs hle hto ?_).mono ?_;(first | exact Rd.drew (HR1.out _) | exact Rd.drew (HR2.out _ _));rintro e w1 ⟨rfl,hb1⟩;have hrd1:Rd r s t 0 w1:=(by first | exact Rd.drew_below (HR1.out _) hb1 | exact Rd.drew_below (HR2.out _ _) hb1);have q1:=hrd1.c2;have q2:=fun o=>(hrd1.alloc o).c2;obtain⟨hc1,hf1⟩:=bcell hb1)
  all_goals (go_wp2_with fail;go_meet)
  all_goals first | exact⟨_,rfl,One.after lt hb1 hrd1⟩ | exact⟨_,rfl,One.ahead lt hb1 hrd1⟩
 case rest =>
  obtain⟨b1,rfl,hbl,hr⟩:=hcut
  clear k1 k2 HR1 HR2 c0 c1 c2 c3 c4 fz hrd
  by_cases h97:t.kind=97
  ·have H97:=hide h97
   clear h97
   go_wp2_with fail
   refine(take_yes r s t _ 0 97 _ hs hto hr H97.out (hide rfl)).mono ?_
   rintro e w2 ⟨rfl,hb2,hr2⟩
   have hbl2:=hbl.on hb2
   have htok1:=htok.next
   have hto1:(PredP.tokFrom (bs s) t.to).to≤s.size:=by have:=htok1.fits.2.1;rwa[PredP.bs_length]at this
   have hz2:w.heap.size<w2.heap.size:=by have:=hbl2.ge;have:=hbl2.lt;omega
   by_cases h61:(PredP.tokFrom (bs s) t.to).kind=61
   ·have H61:=hide h61
    go_wp2_with fail
    refine(take_yes r s _ _ 0 61 _ hs hto1 hr2 h61 (hide rfl)).mono ?_
    rintro e w3 ⟨rfl,hb3,hr3⟩
    have hbl3:=hbl2.on hb3
    have htok2:=htok1.next
    have hen2:PredP.Enough (bs s) (PredP.tokFrom (bs s) (PredP.tokFrom (bs s) t.to).to) N:=by
     have a1:=hfit.2.2 ⟨by have:=H97.out;omega,by have:=H97.out;omega⟩
     have a2:=htok1.fits.2.2 ⟨by omega,by omega⟩
     have a3:=PredP.tokFrom_ge (bs s) t.to
     have a4:=PredP.tokFrom_ge (bs s) (PredP.tokFrom (bs s) t.to).to
     unfold PredP.Enough
     rw[PredP.bs_length]
     omega
    have hcall:=exp_all s hs N r _ 0 w3 (by omega) hr3 htok2 hen2
    have hz3:w.heap.size<w3.heap.size:=by have:=hbl3.ge;have:=hbl3.lt;omega
    clear h61
    cases hexp:PredP.expF (bs s) (N+1) 0 0 (PredP.tokFrom (bs s) (PredP.tokFrom (bs s) t.to).to) with
    | bad p b =>
     rw[hexp]at hcall
     have HX:=hide hexp
     have HC:=hide hcall
     clear hexp hcall
     go_wp2_with fail
     refine HC.out.mono ?_
     rintro e w4 ⟨hb4,u,rfl,b0,rfl,hs0,hs1,hs2,hs3⟩
     obtain⟨but,rlt,ge,lt',o0,o1,o2,of,z0,z1,z2,zf⟩:=hbl3.on hb4
     have f0:=zf 0
     have f1:=zf 1
     have f2:=zf 2
     go_wp2_with fail
     exact bodyPost_ret (v:=.tuple #[.agg #[.string ⟨#[]⟩,.int .i64 0,.slice none 0 0],.iface 103 (.pointer (some ⟨b0,0,none⟩))]) (by simp[results,Tryz.results69,go_sem,z0,z1,z2]) rfl (rule_bad (ruleF_bad H97.out H61.out HX.out) but ⟨b0,rfl,hs0,hs1,hs2,hs3⟩ (by omega))
    | ok e t3 =>
     rw[hexp]at hcall
     have HX:=hide hexp
     have HC:=hide hcall
     have htok3:=(PredP.reader_tok (bs s) (N+1)).1 _ _ _ _ _ htok2 hexp
     have hto3:t3.to≤s.size:=by have:=htok3.fits.2.1;rwa[PredP.bs_length]at this
     clear hexp hcall
     go_wp2_with fail
     refine HC.out.mono ?_
     rintro e w4 ⟨hb4,v,cs,rfl,hsl,hrows,hr4⟩
     obtain⟨va,vn,vc,rfl⟩:=hsl.form
     have hbl4:=hbl3.on hb4
     obtain⟨but,rlt,ge,lt',o0,o1,o2,of,z0,z1,z2,zf⟩:=id hbl4
     have g2:=of 2
     have hbl5:=hbl4.stored (.slice va vn vc)
     have hr5:=hr4.stored (p:=⟨b1,2,none⟩) (show r≠b1 by omega) (.slice va vn vc)
     clear of zf
     have hz4:=hb4.size
     have hlt3:=hbl3.lt
     have hb45:∀b,w3.heap.size≤b→b<w4.heap.size→(w4.setCell ⟨b1,2,none⟩ (.slice va vn vc)).heap[b]?=w4.heap[b]?:=fun b h1 _=>Below.heap_setCell _ _ _ _ (show b≠b1 by omega)
     have HB45:=hide hb45
     clear hb45
     by_cases h46:t3.kind=46
     ·have H46:=hide h46
      clear h46
      go_wp2_with fail
      go_region_law (go_simp;go_at_call 107;refine(take_yes r s t3 _ 0 46 _ hs hto3 (Rd.drew hr5) H46.out (hide rfl)).mono ?_;rintro e w6 ⟨rfl,hb6,hr6⟩;have hbl6:=hbl5.on ((But.refl r _).drew.trans hb6);have y0:=hbl6.z0;have y1:=hbl6.z1;have y2:=hbl6.z2;have k0:=hbl6.o0;have k1:=hbl6.o1;have k2:=hbl6.o2;have x0:=hbl6.zf 0;have x1:=hbl6.zf 1;have x2:=hbl6.zf 2)
      all_goals
       go_wp2_with fail
       have hb56:But r (w4.setCell ⟨b1,2,none⟩ (.slice va vn vc)) w6:=(But.refl r _).drew.trans hb6
       have hz6:w4.heap.size≤w6.heap.size:=by have:=hb56.size;simpa[World.setCell] using this
       exact bodyPost_ret (v:=.tuple #[.agg #[.string (s.extract t.pos t.to),.int .i64 (t.pos:Int),.slice va vn vc],.nilIface]) (by simp[results,Tryz.results69,go_sem,y0,y1,y2]) rfl
        (rule_good hs (ruleF_yes H97.out H61.out HX.out H46.out) lt hbl6.but (fun b h1 h2=>(hb56.block b (by simpa[World.setCell] using h2) (by omega)).trans (HB45.out b h1 h2)) hz6 hr6 hz3 hsl hrows)
     ·have H46:=hide h46
      clear h46
      go_wp2_with fail
      go_region_law (go_simp;go_at_call 107;refine(take_not r s t3 0 46 _ (Rd.drew hr5) H46.out).mono ?_;rintro e w6 ⟨u,rfl,⟨b0,rfl,hs0,hs1,hs2,hs3⟩,hb6'⟩;have hb6:=But.of_below (r:=r) hb6';have hbl6:=hbl5.on ((But.refl r _).drew.trans hb6);have y0:=hbl6.z0;have y1:=hbl6.z1;have y2:=hbl6.z2;have k0:=hbl6.o0;have k1:=hbl6.o1;have k2:=hbl6.o2;have x0:=hbl6.zf 0;have x1:=hbl6.zf 1;have x2:=hbl6.zf 2)
      all_goals
       go_wp2_with fail
       have hs0':(w4.setCell ⟨b1,2,none⟩ (.slice va vn vc)).heap.size≤b0:=hs0
       have hz5:(w4.setCell ⟨b1,2,none⟩ (.slice va vn vc)).heap.size=w4.heap.size:=by simp[World.setCell]
       exact bodyPost_ret (v:=.tuple #[.agg #[.string (s.extract t.pos t.to),.int .i64 (t.pos:Int),.slice va vn vc],.iface 103 (.pointer (some ⟨b0,0,none⟩))]) (by simp[results,Tryz.results69,go_sem,y0,y1,y2]) rfl
        (rule_bad (lo:=w4.heap.size) (ruleF_no46 H97.out H61.out HX.out H46.out) hbl6.but ⟨b0,rfl,by omega,hs1,hs2,hs3⟩ (by omega))
   ·have H61:=hide h61
    go_wp2_with fail
    refine(take_not r s _ 0 61 _ hr2 h61).mono ?_
    rintro e w3 ⟨u,rfl,⟨b0,rfl,hs0,hs1,hs2,hs3⟩,hb3⟩
    obtain⟨but,rlt,ge,lt',o0,o1,o2,of,z0,z1,z2,zf⟩:=hbl2.on (But.of_below hb3)
    have f0:=zf 0
    have f1:=zf 1
    have f2:=zf 2
    clear h61
    go_wp2_with fail
    exact bodyPost_ret (v:=.tuple #[.agg #[.string ⟨#[]⟩,.int .i64 0,.slice none 0 0],.iface 103 (.pointer (some ⟨b0,0,none⟩))]) (by simp[results,Tryz.results69,go_sem,z0,z1,z2]) rfl (rule_bad (ruleF_no61 H97.out H61.out) but ⟨b0,rfl,hs0,hs1,hs2,hs3⟩ (by omega))
  ·have H97:=hide h97
   clear h97
   go_wp2_with fail
   refine(take_not r s t 0 97 _ hr H97.out).mono ?_
   rintro e w2 ⟨u,rfl,⟨b0,rfl,hs0,hs1,hs2,hs3⟩,hb2⟩
   have hzc:w.heap.size<wc.heap.size:=by have:=hbl.ge;have:=hbl.lt;omega
   obtain⟨but,rlt,ge,lt',o0,o1,o2,of,z0,z1,z2,zf⟩:=hbl.on (But.of_below hb2)
   have f0:=zf 0
   have f1:=zf 1
   have f2:=zf 2
   go_wp2_with fail
   exact bodyPost_ret (v:=.tuple #[.agg #[.string ⟨#[]⟩,.int .i64 0,.slice none 0 0],.iface 103 (.pointer (some ⟨b0,0,none⟩))]) (by simp[results,Tryz.results69,go_sem,z0,z1,z2]) rfl (rule_bad (ruleF_no97 H97.out) but ⟨b0,rfl,hs0,hs1,hs2,hs3⟩ (by omega))
end
section
open Go.RowKit
def rulesAt (ok:Nat→Prop) (w:World):List Rule→List Value→Prop
 | [],l=>l=[]
 | q::G,l=>∃a v us l',l=.string a::.int .i64 (q.pos:Int)::v::l'∧bs a=q.name∧a.size≤400∧slAt ok w 2 v us∧rowsAt ok w q.body us∧rulesAt ok w G l'
theorem rulesAt.carry {ok ok':Nat→Prop} {w w':World} (hs:w.heap.size≤w'.heap.size) (h:∀b,ok b→b<w.heap.size→ok' b∧w'.heap[b]?=w.heap[b]?):∀(p:List Rule) (l:List Value),rulesAt ok w p l→rulesAt ok' w' p l
 | [],_,x=>x
 | q::G,l,x=>by
  obtain⟨a,v,us,l',e,h1,h2,h3,h4,h5⟩:=x
  exact⟨a,v,us,l',e,h1,h2,h3.carry hs h,rowsAt.carry hs h _ _ h4,rulesAt.carry hs h G l' h5⟩
theorem rulesAt.snoc {ok:Nat→Prop} {w:World} {q:Rule} {a:ByteArray} {v:Value} {us:List Value} (h1:bs a=q.name) (h2:a.size≤400) (h3:slAt ok w 2 v us) (h4:rowsAt ok w q.body us):∀(G:List Rule) (l:List Value),rulesAt ok w G l→rulesAt ok w (G++[q]) (l++[.string a,.int .i64 (q.pos:Int),v])
 | [],l,x=>by
  cases x
  exact⟨a,v,us,[],rfl,h1,h2,h3,h4,rfl⟩
 | p::G,l,x=>by
  obtain⟨a',v',us',l',rfl,k1,k2,k3,k4,k5⟩:=x
  exact⟨a',v',us',l'++[_,_,v],rfl,k1,k2,k3,k4,rulesAt.snoc h1 h2 h3 h4 G l' k5⟩
def ReadPost (w:World) (o:PredP.Out (List Rule)) (e:Ending) (w':World):Prop :=
 Below w.heap.size w w'∧match o with
 | .ok G _=>∃v cs,e=.returned (.tuple #[v,.nilIface])∧slAt (fun b=>w.heap.size≤b) w' 3 v cs∧rulesAt (fun b=>w.heap.size≤b) w' G cs
 | .bad p b=>∃u,e=.returned (.tuple #[.slice none 0 0,u])∧Syn w.heap.size w' u p b
structure TextRel (r:Nat) (s:ByteArray) (w:World) (o:PredP.Out (List Rule)) (v:Value) (wr:World) (acc:List Rule) (t:PredP.Tok) (m n:Nat) (cs:List Value):Prop where
 out:o=PredP.preG acc (PredP.rulesF (bs s) (m+1) t)
 enough:2 * (s.size - t.pos)+1≤m
 tok:PredP.IsTok (bs s) t
 rd:Rd r s t 0 wr
 but:But r w wr
 own:wr.ownsRow w.heap.size 97 3 v n cs
 rules:rulesAt (okL w.heap.size v) wr acc cs
 short:n≤t.pos
theorem TextRel.push {r:Nat} {s:ByteArray} {w:World} {o:PredP.Out (List Rule)} {v:Value} {wr:World} {acc:List Rule} {t:PredP.Tok} {m n:Nat} {cs:List Value} (hR:TextRel r s w o v wr acc t m n cs) (hs:s.size≤400)
  {t1:PredP.Tok} {w1 w2:World} {q:Rule} {a:ByteArray} {u v':Value} {us:List Value} {o1 o2:Obj} (hr:r<w.heap.size) (hk:t.kind≠0) (hq:PredP.ruleF (bs s) m t=.ok q t1) (hbut:But r wr w1) (hrd:Rd r s t1 0 w1)
  (hg:((w1.alloc o1).alloc o2).grownBy w2 v.ownBlock) (hown:w2.ownsRow w.heap.size 97 3 v' (n+1) (cs++[.string a,.int .i64 (q.pos:Int),u]))
  (hloc:v'.ownBlock=v.ownBlock∨v'.ownBlock=some ((w1.alloc o1).alloc o2).heap.size) (ha:bs a=q.name) (ha':a.size≤400) (hu:slAt (fun b=>wr.heap.size≤b) w1 2 u us) (hx:rowsAt (fun b=>wr.heap.size≤b) w1 q.body us) :
  (∃acc t m n cs,TextRel r s w o v' w2 acc t m n cs)∧401 - posOf w2 r<401 - posOf wr r:=by
 have hlt:=hR.own.lt
 have hsz:=hR.but.size
 have hB:Below w1.heap.size w1 ((w1.alloc o1).alloc o2):=((Below.refl _ w1).alloc (Nat.le_refl _) _).alloc (by simp) _
 have hsz2:=hB.size
 have hbW:But r wr ((w1.alloc o1).alloc o2):=hbut.trans (But.of_below hB)
 have hrd2:=(hrd.below hB).grown hg (fun e=>by have:=hlt r e.symm;omega)
 have hnew:∀b,wr.heap.size≤b→b<w1.heap.size→okL w.heap.size v' b∧w2.heap[b]?=w1.heap[b]?:=by
  intro b hb hbW
  have h1:some b≠v.ownBlock:=fun e=>by have:=hlt b e.symm;omega
  refine⟨⟨by omega,fun e=>?_⟩,(hg.block b (by omega) h1).trans (hB.block b hbW)⟩
  rcases hloc with q | q
  ·rw[q]at e;exact h1 e
  ·rw[q]at e;simp at e;omega
 obtain⟨htok1,hpos⟩:=PredP.ruleF_on hR.tok hq
 have hle:t1.pos≤s.size:=by have:=Nat.le_trans htok1.fits.1 htok1.fits.2.1;rwa[PredP.bs_length]at this
 have hen:=hR.enough
 obtain⟨m',rfl⟩:∃m',m=m'+1:=⟨m - 1,by omega⟩
 refine⟨⟨acc++[q],t1,m',n+1,_,⟨?_,by omega,htok1,hrd2,(hR.but.trans hbW).of_grown hg (fun k e=>(hlt k e).1),hown,?_,?_⟩⟩,?_⟩
 ·rw[hR.out,PredP.rulesF_more hk hq,PredP.preG_preG]
 ·refine rulesAt.snoc ha ha' (slAt.carry (Nat.le_trans hsz2 hg.size) hnew hu) (rowsAt.carry (Nat.le_trans hsz2 hg.size) hnew _ _ hx) acc cs ?_
  refine rulesAt.carry (Nat.le_trans hbW.size hg.size) ?_ acc cs hR.rules
  rintro b ⟨hb,hne⟩ hbw
  have hbw':b<((w1.alloc o1).alloc o2).heap.size:=Nat.lt_of_lt_of_le hbw hbW.size
  refine⟨⟨hb,fun e=>?_⟩,(hg.block b hbw' hne).trans (hbW.block b hbw (by omega))⟩
  rcases hloc with q | q
  ·rw[q]at e;exact hne e
  ·rw[q]at e;simp at e;have:=hbut.size;omega
 ·have:=hR.short;omega
 ·rw[hrd2.posOf,hR.rd.posOf];omega
theorem infoRule:(Tryz.prog.info? 97).map (fun i=>(i.zero,i.size,i.bytes))=some (some (.agg #[.string ⟨#[]⟩,.int .i64 0,.slice none 0 0]),3,48):=by kernel_rfl
theorem three_new2 (w:World) (o:Obj) (x y z:Value) (ty:Nat):∀j u,[x,y,z][j]?=some u→((w.alloc o).alloc (.cells #[x,y,z] ty)).cell? ((⟨w.heap.size+1,0,none⟩:Addr).add j)=some u:=by
 intro j u hu
 have hadd:(⟨w.heap.size+1,0,none⟩:Addr).add j=⟨w.heap.size+1,j,none⟩:=by unfold Addr.add;split<;>simp_all
 rw[hadd]
 exact cell_fresh2 (by simpa using hu)
theorem text_end {r:Nat} {s:ByteArray} {w w0:World} {o:PredP.Out (List Rule)} {v:Value} {wr:World} {acc:List Rule} {t:PredP.Tok} {m n:Nat} {cs:List Value} (hR:TextRel r s w o v wr acc t m n cs) (h0:Below w0.heap.size w0 w) (hr:w0.heap.size≤r) (hk:t.kind=0):ReadPost w0 o (.returned (.tuple #[v,.nilIface])) wr:=by
 have hb:Below w0.heap.size w0 wr:=h0.trans ⟨hR.but.os,hR.but.tape,hR.but.output,hR.but.size,fun k hk=>hR.but.block k (by have:=h0.size;omega) (by omega)⟩
 refine⟨hb,?_⟩
 rw[hR.out,PredP.rulesF_end hk]
 simp only[PredP.preG,List.append_nil]
 have hsz:=h0.size
 exact⟨v,cs,rfl,slAt.of_owns hR.own (fun g hg=>Nat.le_trans hsz (hR.own.lt g hg).1),rulesAt.carry (Nat.le_refl _) (fun b hb _=>⟨Nat.le_trans hsz hb.1,rfl⟩) acc cs hR.rules⟩
theorem text_bad {r:Nat} {s:ByteArray} {w w0 w1:World} {o:PredP.Out (List Rule)} {v:Value} {wr:World} {acc:List Rule} {t:PredP.Tok} {m n p:Nat} {b:Bool} {cs:List Value} {u:Value} {ob:Obj} (hR:TextRel r s w o v wr acc t m n cs) (h0:Below w0.heap.size w0 w) (hr:w0.heap.size≤r) (hk:t.kind≠0) (hq:PredP.ruleF (bs s) m t=.bad p b)
  (hbut:But r wr w1) (hu:Syn wr.heap.size w1 u p b):ReadPost w0 o (.returned (.tuple #[.slice none 0 0,u])) (w1.alloc ob):=by
 have hbb:=hR.but.trans hbut
 have hsz:=h0.size
 have hb:Below w0.heap.size w0 w1:=h0.trans ⟨hbb.os,hbb.tape,hbb.output,hbb.size,fun k hk=>hbb.block k (by omega) (by omega)⟩
 have hz:=hR.but.size
 refine⟨hb.alloc hb.size _,?_⟩
 rw[hR.out,PredP.rulesF_bad hk hq]
 obtain⟨b0,e,h1,h2,h3,h4⟩:=hu
 have hB:Below w1.heap.size w1 (w1.alloc ob):=(Below.refl _ w1).alloc (Nat.le_refl _) _
 exact⟨u,rfl,b0,e,by omega,Nat.lt_of_lt_of_le h2 hB.size,(hB.cell (p:=⟨b0,0,none⟩) h2).trans h3,(hB.cell (p:=⟨b0,1,none⟩) h2).trans h4⟩
theorem readText_any (s:ByteArray) (hs:s.size≤400) (w:World) :
  Calls Tryz.prog 46 #[.string s] w (ReadPost w (PredP.read (bs s))):=by
 obtain⟨o,ho⟩:∃o,PredP.read (bs s)=o:=⟨_,rfl⟩
 rw[ho]
 have HO:=hide ho
 clear ho
 obtain⟨i0,hi,hz0,hz1,hz2⟩:=info_parts infoRule
 go_enter Tryz.func46,Tryz.ntmps46
 go_wp2_with (go_at_call 68;refine(tokenFrom_any s 0 _ _ hs (Nat.zero_le _) (hide rfl)).mono ?_;rintro e w1 ⟨rfl,hb1⟩)
 obtain⟨r,hr⟩:∃r,r=w1.heap.size:=⟨_,rfl⟩
 obtain⟨t0,ht0⟩:∃t0,PredP.tokFrom (bs s) 0=t0:=⟨_,rfl⟩
 have htok0:PredP.IsTok (bs s) t0:=⟨0,Nat.zero_le _,ht0.symm⟩
 have ho':o=PredP.rulesF (bs s) (2 * s.size+1+1) t0:=by rw[←HO.out,←ht0,PredP.read,PredP.bs_length]
 rw[ht0]
 clear HO ht0
 have hrd0:Rd r s t0 0 (w1.alloc (.cells #[.string s,.int .u8 (t0.kind:Int),.int .i64 (t0.pos:Int),.int .i64 (t0.to:Int),.int .i64 0] 162)):=by
  subst hr
  exact⟨cell_fresh rfl,cell_fresh rfl,cell_fresh rfl,cell_fresh rfl,cell_fresh rfl,by simp,fun k=>frozen_new k⟩
 have hB0:Below w.heap.size w (w1.alloc (.cells #[.string s,.int .u8 (t0.kind:Int),.int .i64 (t0.pos:Int),.int .i64 (t0.to:Int),.int .i64 0] 162)):=hb1.alloc hb1.size _
 have hrlt:r<(w1.alloc (.cells #[.string s,.int .u8 (t0.kind:Int),.int .i64 (t0.pos:Int),.int .i64 (t0.to:Int),.int .i64 0] 162)).heap.size:=by rw[hr];simp
 have hwr:w.heap.size≤r:=by rw[hr];exact hb1.size
 rw[←hr]
 clear hr
 generalize w1.alloc (.cells #[.string s,.int .u8 (t0.kind:Int),.int .i64 (t0.pos:Int),.int .i64 (t0.to:Int),.int .i64 0] 162)=w0 at hrd0 hB0 hrlt ⊢
 clear hb1
 have hrel0:TextRel r s w0 o (.slice none 0 0) w0 [] t0 (2 * s.size+1) 0 []:=⟨by rw[PredP.preG_nil];exact ho',by omega,htok0,hrd0,But.refl _ _,World.ownsRow_nil _ _ _ _,rfl,Nat.zero_le _⟩
 clear ho' htok0 hrd0
 go_loopw [5] (fun v wr=>∃acc t m n cs,TextRel r s w0 o v wr acc t m n cs) (fun _ wr=>401 - posOf wr r)
 case atStart=>exact⟨_,_,_,_,_,hrel0⟩
 case round =>
  clear hrel0
  obtain⟨acc,t,m,n,cs,hR⟩:=hrel
  obtain⟨c0,c1,c2,c3,c4,lt,fz⟩:=id hR.rd
  have hsh:=hR.short
  have hwr0:=hR.but.size
  have hle:=hR.tok.fits.1
  have hto:t.to≤s.size:=by have:=hR.tok.fits.2.1;rwa[PredP.bs_length]at this
  by_cases hk:t.kind=0
  ·have hb:((t.kind:Int) != 0)=false:=by simp[hk]
   have hend:=hide (text_end hR hB0 hwr hk)
   clear hk
   go_wp2_with fail
   go_ret2
   exact hend.out
  ·have hb:((t.kind:Int) != 0)=true:=by rw[bne_iff_ne];omega
   have HK:=hide hk
   clear hk
   have hen:=hR.enough
   obtain⟨m',rfl⟩:∃m',m=m'+1:=⟨m - 1,by omega⟩
   have hcall:=rule_any s hs m' r t wr hR.rd hR.tok (by omega)
   cases hq:PredP.ruleF (bs s) (m'+1) t with
   | bad p b =>
    rw[hq]at hcall
    have HC:=hide hcall
    have HQ:=hide hq
    clear hcall hq
    go_wp2_with (go_at_call 69;refine HC.out.mono ?_;rintro e w2 ⟨hbut2,x,nn,va,vn,vc,u,rfl,b0,rfl,hs0,hs1,hs2,hs3⟩)
    go_ret2
    exact text_bad hR hB0 hwr HK.out HQ.out hbut2 ⟨b0,rfl,hs0,hs1,hs2,hs3⟩
   | ok q t1 =>
    rw[hq]at hcall
    have HC:=hide hcall
    have HQ:=hide hq
    clear hcall hq
    go_wp2_with (first
     | (go_at_call 69;refine HC.out.mono ?_;rintro e w2 ⟨hbut2,a,u,us,rfl,ha,ha',hsl,hrows,hrd2⟩;obtain⟨ua,un,uc,rfl⟩:=hsl.form;have HA:=hide ha;clear ha;have ho1:=hR.own.kept hbut2.grown (.inr fun e=>by have:=hR.own.lt r e;omega);have hz1':wr.heap.size≤w2.heap.size:=hbut2.size)
     | (at_builtin;refine wpList_append_own_at _ rfl _ _ _ rfl w0.heap.size 97 i0 (.agg #[.string ⟨#[]⟩,.int .i64 0,.slice none 0 0]) 3 48 (by kernel_rfl) hi hz0 hz1 hz2 rfl (by decide) _ n cs rfl ((ho1.alloc _).alloc _) _ 1 1 [_,_,_] rfl rfl (three_new2 _ _ _ _ _ _) (by simp[Value.oneCell']) (by unfold maxLen;omega) (by omega) (by simp;omega) ?_;intro v' w3 hown3 hgrow3 _ hloc3))
    exact hR.push hs hrlt HK.out HQ.out hbut2 hrd2 hgrow3 hown3 hloc3 HA.out ha' hsl hrows
end
end Go.Proofs.YtpcmemcanpgadaaGreatDoor
