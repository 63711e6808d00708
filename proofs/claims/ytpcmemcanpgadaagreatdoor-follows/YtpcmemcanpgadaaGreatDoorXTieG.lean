import Derived.Test.YtpcmemcanpgadaaGreatDoorXChG
import Derived.Test.YtpcmemcanpgadaaGreatDoorXWith
import Derived.Test.YtpcmemcanpgadaaGreatDoorRuleG
import Derived.Test.YtpcmemcanpgadaaGreatDoorPureX
set_option maxHeartbeats 1000000
set_option maxRecDepth 100000
namespace Go.Proofs.YtpcmemcanpgadaaGreatDoor
open PredP (hide Str Rule bs)
section
open Go.RowKit
theorem ch_all (s:ByteArray) (hs:s.size≤400) (m:Nat):ChC s m:=by
 induction m using Nat.strongRecOn with
 | ind m ih=>exact choice_x m s hs (hide ih)
structure Touch (S:List Nat) (w w':World):Prop where
 os:w'.os=w.os
 tape:w'.tape=w.tape
 output:w'.output=w.output
 size:w'.heap.size=w.heap.size
 block:∀b,b∉S→w'.heap[b]?=w.heap[b]?
theorem Touch.refl (S:List Nat) (w:World):Touch S w w:=⟨rfl,rfl,rfl,rfl,fun _ _=>rfl⟩
theorem Touch.trans {S T:List Nat} {a b c:World} (h:Touch S a b) (k:Touch T b c) (hT:∀x,x∈T→x∈S):Touch S a c :=
 ⟨k.os.trans h.os,k.tape.trans h.tape,k.output.trans h.output,k.size.trans h.size,fun x hx=>(k.block x (fun e=>hx (hT x e))).trans (h.block x hx)⟩
theorem Touch.set {S:List Nat} {a w:World} (h:Touch S a w) {p:Addr} (hp:p.block∈S) (u:Value):Touch S a (w.setCell p u) :=
 ⟨h.os,h.tape,h.output,by rw[←h.size];simp[World.setCell],fun x hx=>(Below.heap_setCell _ _ _ _ (fun e=>hx (by rw[e];exact hp))).trans (h.block x hx)⟩
theorem xsAt_iff {okN okA:Nat→Prop} {w:World} {tie:Option (Option Nat×Nat)}:∀l:PredP.Xs,xsAt okN okA w tie l↔∀y,y∈l.list→xAt okN okA w tie y
 | .nil=>by unfold xsAt;simp[PredP.Xs.list]
 | .cons x l=>by unfold xsAt;rw[xsAt_iff l];simp[PredP.Xs.list]
theorem all_list:∀l:PredP.Xs,l.all=l.list.flatMap PredP.X.all
 | .nil=>rfl
 | .cons x l=>by rw[PredP.Xs.all,PredP.Xs.list,List.flatMap_cons,all_list l]
theorem list_size:∀(l:PredP.Xs) (y:PredP.X),y∈l.list→SizeOf.sizeOf y<SizeOf.sizeOf l
 | .nil,y,h=>by simp[PredP.Xs.list]at h
 | .cons x l,y,h=>by
  rw[PredP.Xs.list]at h
  rcases List.mem_cons.1 h with rfl | h
  ·simp;omega
  ·have:=list_size l y h
   simp;omega
theorem flat_apart {α:Type} {f:α→List Nat}:∀(l:List α),(l.flatMap f).Nodup→∀(q j:Nat) (z y:α),l[q]?=some z→l[j]?=some y→q≠j→∀b,b∈f z→b∉f y
 | [],_,q,_,_,_,h,_,_=>by simp at h
 | x::l,hn,q,j,z,y,hz,hy,hne=>by
  rw[List.flatMap_cons,List.nodup_append]at hn
  intro b hb hb'
  cases q with
  | zero =>
   simp at hz
   subst hz
   cases j with
   | zero=>exact hne rfl
   | succ j =>
    rw[List.getElem?_cons_succ]at hy
    exact hn.2.2 b hb b (List.mem_flatMap.2 ⟨y,List.mem_of_getElem? hy,hb'⟩) rfl
  | succ q =>
   rw[List.getElem?_cons_succ]at hz
   cases j with
   | zero =>
    simp at hy
    subst hy
    exact hn.2.2 b hb' b (List.mem_flatMap.2 ⟨z,List.mem_of_getElem? hz,hb⟩) rfl
   | succ j =>
    rw[List.getElem?_cons_succ]at hy
    exact flat_apart l hn.2.1 q j z y hz hy (by omega) b hb hb'
theorem flat_nodup {α:Type} {f:α→List Nat}:∀(l:List α),(l.flatMap f).Nodup→∀y,y∈l→(f y).Nodup
 | [],_,y,h=>by simp at h
 | x::l,hn,y,h=>by
  rw[List.flatMap_cons,List.nodup_append]at hn
  rcases List.mem_cons.1 h with rfl | h
  ·exact hn.1
  ·exact flat_nodup l hn.2.1 y h
mutual
theorem xAt.stay {okN okA:Nat→Prop} {w w':World} (hs:w.heap.size≤w'.heap.size) (hA:∀b,okA b→b<w.heap.size→w'.heap[b]?=w.heap[b]?):∀(x:PredP.X) (tie:Option (Option Nat×Nat)),(∀b,b∈x.all→w'.heap[b]?=w.heap[b]?)→xAt okN okA w tie x→xAt okN okA w' tie x
 | .mk i o p s b l,tie,hN=>by
  unfold xAt
  rintro⟨h1,hl,L,B,U,k,id,h2,h3,h4,h5,h6⟩
  refine⟨h1,hl,L,B,U,k,id,(hN i (by rw[PredP.X.all];exact List.mem_cons_self)).trans h2,h3.carry hs (fun b hb hl=>⟨hb,hA b hb hl⟩),h4.carry hs (fun b hb hl=>⟨hb,hA b hb hl⟩),h5,xsAt.stay hs hA l _ (fun b hb=>hN b (by rw[PredP.X.all];exact List.mem_cons_of_mem _ hb)) h6⟩
theorem xsAt.stay {okN okA:Nat→Prop} {w w':World} (hs:w.heap.size≤w'.heap.size) (hA:∀b,okA b→b<w.heap.size→w'.heap[b]?=w.heap[b]?):∀(l:PredP.Xs) (tie:Option (Option Nat×Nat)),(∀b,b∈l.all→w'.heap[b]?=w.heap[b]?)→xsAt okN okA w tie l→xsAt okN okA w' tie l
 | .nil,_,_=>by unfold xsAt;exact id
 | .cons x l,tie,hN=>by
  unfold xsAt
  rintro⟨a,b⟩
  exact⟨xAt.stay hs hA x tie (fun c hc=>hN c (by rw[PredP.Xs.all];exact List.mem_append_left _ hc)) a,xsAt.stay hs hA l tie (fun c hc=>hN c (by rw[PredP.Xs.all];exact List.mem_append_right _ hc)) b⟩
end
mutual
theorem xAt.exps {okN okA:Nat→Prop} {w:World}:∀(x:PredP.X) (tie:Option (Option Nat×Nat)),xAt okN okA w tie x→∀i,i∈x.all→∃cs f,w.heap[i]?=some (.cells cs 132 f)
 | .mk i o p s b l,tie=>by
  unfold xAt
  rintro⟨h1,_,L,B,U,k,id,h2,_,_,_,h6⟩ j hj
  rw[PredP.X.all]at hj
  rcases List.mem_cons.1 hj with rfl | hj
  ·exact⟨_,_,h2⟩
  ·exact xsAt.exps l _ h6 j hj
theorem xsAt.exps {okN okA:Nat→Prop} {w:World}:∀(l:PredP.Xs) (tie:Option (Option Nat×Nat)),xsAt okN okA w tie l→∀i,i∈l.all→∃cs f,w.heap[i]?=some (.cells cs 132 f)
 | .nil,_=>by intro _ j hj;rw[PredP.Xs.all]at hj;cases hj
 | .cons x l,tie=>by
  unfold xsAt
  rintro⟨a,b⟩ j hj
  rw[PredP.Xs.all]at hj
  rcases List.mem_append.1 hj with hj | hj
  ·exact xAt.exps x tie a j hj
  ·exact xsAt.exps l tie b j hj
end
def TieC (x:PredP.X):Prop:=∀(okN okA:Nat→Prop) (w:World) (up:Option Nat) (k:Nat) (n:Int),xAt okN okA w none x→x.all.Nodup→(∀b,okA b→noExp w b) →
 Calls Tryz.prog 34 #[.pointer (some ⟨x.id,0,none⟩),.pointer (up.map fun j=>⟨j,0,none⟩),.int .i64 (k:Int),.int .i64 n] w fun e w'=>(∃n',e=.returned (.int .i64 n'))∧Touch x.all w w'∧xAt okN okA w' (some (up,k)) x
structure TieR (okN okA:Nat→Prop) (w:World) (i:Nat) (o:PredP.XOp) (p:Nat) (s:Str) (L B U:Value) (k:Nat) (n1:Int) (l:PredP.Xs) (j:Nat) (wr:World):Prop where
 touch:Touch (i::l.all) w wr
 xb:wr.heap[i]?=some (expO o p s L B U k n1)
 done:∀q y,q<j→l.list[q]?=some y→xAt okN okA wr (some (some i,k)) y
 todo:∀q y,j≤q→l.list[q]?=some y→xAt okN okA wr none y
theorem TieR.step {okN okA:Nat→Prop} {w:World} {i:Nat} {o:PredP.XOp} {p:Nat} {s:Str} {L B U:Value} {k:Nat} {n1:Int} {l:PredP.Xs} {j:Nat} {wr w2:World} (h:TieR okN okA w i o p s L B U k n1 l j wr) (hnd:(i::l.all).Nodup) (hA:∀b,okA b→noExp w b)
  (hE:∀b,b∈i::l.all→∃cs f,w.heap[b]?=some (.cells cs 132 f)) {y:PredP.X} (hy:l.list[j]?=some y) (ht:Touch y.all wr w2) (hx:xAt okN okA w2 (some (some i,k)) y):TieR okN okA w i o p s L B U k n1 l (j+1) w2:=by
 have hmem:y∈l.list:=List.mem_of_getElem? hy
 have hsub:∀b,b∈y.all→b∈l.all:=fun b hb=>by rw[all_list];exact List.mem_flatMap.2 ⟨y,hmem,hb⟩
 have hnd':=List.nodup_cons.1 hnd
 rw[all_list]at hnd'
 have hkeep:∀b,okA b→b<wr.heap.size→w2.heap[b]?=wr.heap[b]?:=fun b hb _=>ht.block b (fun e=>by
  obtain⟨cs,f,he⟩:=hE b (List.mem_cons_of_mem _ (hsub b e))
  exact hA b hb cs f he)
 have hap:∀q z,q≠j→l.list[q]?=some z→∀b,b∈z.all→w2.heap[b]?=wr.heap[b]?:=fun q z hq hz b hb=>ht.block b (flat_apart l.list hnd'.2 q j z y hz hy hq b hb)
 refine⟨h.touch.trans ht (fun b hb=>List.mem_cons_of_mem _ (hsub b hb)),?_,?_,?_⟩
 ·rw[ht.block i (fun e=>hnd'.1 (by rw[←all_list];exact hsub i e))]
  exact h.xb
 ·intro q z hq hz
  by_cases e:q=j
  ·subst e
   rw[hy]at hz
   cases hz
   exact hx
  ·exact xAt.stay (Nat.le_of_eq ht.size.symm) hkeep z _ (hap q z e hz) (h.done q z (by omega) hz)
 ·intro q z hq hz
  exact xAt.stay (Nat.le_of_eq ht.size.symm) hkeep z _ (hap q z (by omega) hz) (h.todo q z (by omega) hz)
theorem tie_x (x:PredP.X) (IH:Hid (∀y:PredP.X,SizeOf.sizeOf y<SizeOf.sizeOf x→TieC y)):TieC x:=by
 intro okN okA w up k n hx hnd hA
 have HE:=hide (xAt.exps x none hx)
 have HA:=hide hA
 obtain⟨i,o,p,s,b,l⟩:=x
 unfold xAt at hx
 obtain⟨hN,hlen,L,B,U,k0,id0,hblk,hL,hB,_,hkids⟩:=hx
 obtain⟨a,nl,cap,rfl,hm,_,hll,hc⟩:=hL.gen
 unfold maxLen at hm
 have HSL:=hide hL
 have HSB:=hide hB
 have HC:=hide hc
 have HK:=hide hkids
 have HL:Hid (l.list.length=nl):=by
  show _=_
  rw[←PredP.Xs.len_ids]
  have:=hll
  simp[ptrC]at this
  exact this
 have HND:=hide hnd
 have HLEN:=hide hlen
 have HNN:=hide hN
 clear hL hB hc hkids hll hnd hA hlen hN
 have c3:w.cell? ⟨i,3,none⟩=some (.slice a nl cap):=by simp only[World.cell?,hblk];rfl
 have c5:w.cell? ⟨i,5,none⟩=some U:=by simp only[World.cell?,hblk];rfl
 have c6:w.cell? ⟨i,6,none⟩=some (.int .i64 k0):=by simp only[World.cell?,hblk];rfl
 have c7:w.cell? ⟨i,7,none⟩=some (.int .i64 id0):=by simp only[World.cell?,hblk];rfl
 have fz:∀j,w.frozen? ⟨i,j,none⟩=false:=fun j=>by simp only[World.frozen?,hblk];rfl
 have hlt:i<w.heap.size:=(Array.getElem?_eq_some_iff.1 hblk).1
 have HB:=hide hblk
 clear hblk
 simp only[PredP.X.id]
 go_enter Tryz.func34,Tryz.ntmps34
 go_wp2_with fail
 have hrel0:TieR okN okA w i o p s (.slice a nl cap) B (.pointer (up.map fun j=>⟨j,0,none⟩)) k n l 0 (((w.setCell ⟨i,5,none⟩ (.pointer (up.map fun j=>⟨j,0,none⟩))).setCell ⟨i,6,none⟩ (.int .i64 (k:Int))).setCell ⟨i,7,none⟩ (.int .i64 n)):=by
  have hT:Touch [i] w (((w.setCell ⟨i,5,none⟩ (.pointer (up.map fun j=>⟨j,0,none⟩))).setCell ⟨i,6,none⟩ (.int .i64 (k:Int))).setCell ⟨i,7,none⟩ (.int .i64 n)):=(((Touch.refl [i] w).set (by simp) _).set (by simp) _).set (by simp) _
  have hnd:=List.nodup_cons.1 (by have:=HND.out;rw[PredP.X.all]at this;exact this)
  refine⟨(Touch.refl (i::l.all) w).trans hT (fun x hx=>by rw[List.mem_singleton.1 hx];exact List.mem_cons_self),?_,fun q y hq=>by omega,fun q y _ hy=>?_⟩
  ·rw[setCell_block (setCell_block (setCell_block HB.out _) _) _];rfl
  ·have hmem:=List.mem_of_getElem? hy
   refine xAt.stay (Nat.le_of_eq hT.size.symm) (fun b hb _=>hT.block b (fun e=>?_)) y none (fun b hb=>hT.block b (fun e=>?_)) ((xsAt_iff l).1 HK.out y hmem)
   ·rw[List.mem_singleton.1 e]at hb
    exact HA.out i hb _ _ HB.out
   ·rw[List.mem_singleton.1 e]at hb
    exact hnd.1 (by rw[all_list];exact List.mem_flatMap.2 ⟨y,hmem,hb⟩)
 clear c3 c5 c6 c7 fz
 go_loopw [3,30] (fun v t wr=>∃j:Nat,∃n':Int,j≤nl∧t=.int .i64 j∧v=.int .i64 n'∧TieR okN okA w i o p s (.slice a nl cap) B (.pointer (up.map fun j=>⟨j,0,none⟩)) k n l j wr) (fun _ t _=>nl - (intOf t).toNat)
 case atStart=>exact⟨0,_,by omega,rfl,rfl,hrel0⟩
 case round =>
  clear hrel0
  obtain⟨j,n',hj,rfl,rfl,hR⟩:=hrel
  by_cases hj':j<nl
  ·obtain⟨y,hy⟩:∃y,l.list[j]?=some y:=⟨l.list[j]'(by rw[HL.out];exact hj'),List.getElem?_eq_getElem _⟩
   rcases HC.out with h0 | ⟨g,rfl,hok,hg,hcell⟩
   ·omega
   have hE:∀b,b∈i::l.all→∃cs f,w.heap[b]?=some (.cells cs 132 f):=fun b hb=>HE.out b (by rw[PredP.X.all];exact hb)
   have hgb:wr.heap[g]?=w.heap[g]?:=hR.touch.block g (fun e=>by obtain⟨cs,f,he⟩:=hE g e;exact HA.out g hok cs f he)
   have k0':wr.cell? ⟨g,j,none⟩=some (.pointer (some ⟨y.id,0,none⟩)):=(World.cell?_of_block (a:=⟨g,j,none⟩) hgb).trans (hcell j _ (by simp[ptrC,PredP.Xs.ids_list,hy]))
   have hmem:=List.mem_of_getElem? hy
   have hnd:(i::l.all).Nodup:=by have:=HND.out;rw[PredP.X.all]at this;exact this
   have hndy:y.all.Nodup:=flat_nodup l.list (by rw[←all_list];exact(List.nodup_cons.1 hnd).2) y hmem
   have hAr:∀b,okA b→noExp wr b:=fun b hb=>(HA.out b hb).same (hR.touch.block b (fun e=>by obtain⟨cs,f,he⟩:=hE b e;exact HA.out b hb cs f he))
   have hIH:=IH.out y (by have:=list_size l y hmem;simp;omega) okN okA wr (some i) k n' (hR.todo j y (Nat.le_refl _) hy) hndy hAr
   have HIH:=hide hIH
   have HY:=hide hy
   have HEE:=hide hE
   have HNd:=hide hnd
   clear hIH hy hE hnd hndy hAr hcell hgb hmem
   go_wp2_with (go_at_call 34;refine HIH.out.mono ?_;rintro e w2 ⟨⟨n2,rfl⟩,ht2,hx2⟩)
   exact⟨⟨j+1,n2,by omega,by go_num,rfl,hR.step HNd.out HA.out HEE.out HY.out ht2 hx2⟩,by simp[intOf];omega⟩
  ·have hjj:l.list.length≤j:=by rw[HL.out];omega
   have HJ:=hide hjj
   clear hjj
   go_wp2_with fail
   go_ret
   have hE:∀b,b∈i::l.all→∃cs f,w.heap[b]?=some (.cells cs 132 f):=fun b hb=>HE.out b (by rw[PredP.X.all];exact hb)
   have hAk:∀b,okA b→b<w.heap.size→okA b∧wr.heap[b]?=w.heap[b]?:=fun b hb _=>⟨hb,hR.touch.block b (fun e=>by obtain⟨cs,f,he⟩:=hE b e;exact HA.out b hb cs f he)⟩
   refine⟨⟨_,rfl⟩,by rw[PredP.X.all];exact hR.touch,?_⟩
   unfold xAt
   refine⟨HNN.out,HLEN.out,_,_,_,_,_,hR.xb,HSL.out.carry (Nat.le_of_eq hR.touch.size.symm) hAk,HSB.out.carry (Nat.le_of_eq hR.touch.size.symm) hAk,(fun x hx=>by cases hx;exact⟨rfl,rfl⟩),(xsAt_iff l).2 fun y hy=>?_⟩
   obtain⟨q,hq⟩:=List.getElem?_of_mem hy
   have:=(List.getElem?_eq_some_iff.1 hq).1
   have:=HJ.out
   exact hR.done q y (by omega) hq
theorem tie_all (x:PredP.X):TieC x:=by
 induction h:SizeOf.sizeOf x using Nat.strongRecOn generalizing x with
 | ind n ih=>exact tie_x x (hide fun y hy=>ih _ (by omega) y rfl)
end
section
open Go.RowKit
abbrev gramO (a b c:Value):Obj:=.cells #[a,b,c,.slice none 0 0,.slice none 0 0,.slice none 0 0,.int .i64 0] 35
section
variable (N:Nat) (OB:List Value) (wr:World)
def trN (b:Nat):Prop:=N≤b∧∀v,v∈OB→some b≠v.ownBlock
def trA (b:Nat):Prop:=(N≤b∧noExp wr b)∧∀v,v∈OB→some b≠v.ownBlock
def treesAt (l:List PredP.X):Prop:=∀x,x∈l→xAt (trN N OB) (trA N OB wr) wr none x
end
theorem trees_carry {N:Nat} {OB OB':List Value} {wr w3:World} {l:List PredP.X} (h:treesAt N OB wr l) (hs:wr.heap.size≤w3.heap.size) (hb:∀b,N≤b→b<wr.heap.size→(∀v,v∈OB→some b≠v.ownBlock)→w3.heap[b]?=wr.heap[b]?)
  (ho:∀b,b<wr.heap.size→(∀v,v∈OB→some b≠v.ownBlock)→∀v,v∈OB'→some b≠v.ownBlock):treesAt N OB' w3 l:=by
 intro x hx
 refine xAt.carry hs ?_ ?_ x none (h x hx)
 ·rintro b ⟨h1,h2⟩ hl
  exact⟨⟨h1,ho b hl h2⟩,hb b h1 hl h2⟩
 ·rintro b ⟨⟨h1,h2⟩,h3⟩ hl
  have e:=hb b h1 hl h3
  exact⟨⟨⟨h1,h2.same e⟩,ho b hl h3⟩,e⟩
structure XG (N r g cap:Nat) (s:ByteArray) (w:World) (gb:Nat) (wr:World) (what pos k:Nat) (t:PredP.Tok) (names:List Str) (ats ids:List Nat) (vN vA vE:Value):Prop where
 rd:XRd r g cap s k t 0 what pos wr
 low:Below w.heap.size w wr
 gbk:wr.heap[gb]?=some (gramO vN vA vE)
 ownN:wr.ownsRow N 9 1 vN names.length (strC names)
 ownA:wr.ownsRow N 3 1 vA ats.length (intC ats)
 ownE:wr.ownsRow N 83 1 vE ids.length (ptrC ids)
 size:N≤wr.heap.size
structure XGw (N r g:Nat) (w:World) (gb:Nat):Prop where
 gbN:gb<N
 rN:r<N
 gN:g<N
 ne:gb≠r
 ng:gb≠g
 lowR:w.heap.size≤r
 lowG:w.heap.size≤gb
theorem XG.through {N r g cap:Nat} {s:ByteArray} {w:World} {gb:Nat} {wr:World} {what pos k:Nat} {t:PredP.Tok} {names:List Str} {ats ids:List Nat} {vN vA vE:Value} (h:XG N r g cap s w gb wr what pos k t names ats ids vN vA vE) (hw:XGw N r g w gb)
  {w':World} {what' pos' k':Nat} {t':PredP.Tok} (hb:But r wr w') (hrd:XRd r g cap s k' t' 0 what' pos' w'):XG N r g cap s w gb w' what' pos' k' t' names ats ids vN vA vE∧∀l,treesAt N [vN,vA,vE] wr l→treesAt N [vN,vA,vE] w' l:=by
 have hgl:gb<wr.heap.size:=(Array.getElem?_eq_some_iff.1 h.gbk).1
 have hrN:=hw.rN
 have hlr:=hw.lowR
 refine⟨⟨hrd,⟨hb.os.trans h.low.os,hb.tape.trans h.low.tape,hb.output.trans h.low.output,Nat.le_trans h.low.size hb.size,fun b hl=>(hb.block b (Nat.lt_of_lt_of_le hl h.low.size) (by omega)).trans (h.low.block b hl)⟩,(hb.block gb hgl hw.ne).trans h.gbk,h.ownN.kept hb.grown (.inr fun e=>by have:=h.ownN.lt r e;omega),h.ownA.kept hb.grown (.inr fun e=>by have:=h.ownA.lt r e;omega),h.ownE.kept hb.grown (.inr fun e=>by have:=h.ownE.lt r e;omega),Nat.le_trans h.size hb.size⟩,?_⟩
 exact fun l hl=>trees_carry hl hb.size (fun b h1 h2 _=>hb.block b h2 (by omega)) (fun _ _ h=>h)
theorem gram_no {wr:World} {gb N n:Nat} {e:TypeId} {a b c v:Value} {xs:List Value} (hg:wr.heap[gb]?=some (gramO a b c)) (h:wr.ownsRow N e 1 v n xs) (he:e≠35):v.ownBlock≠some gb:=by
 intro hv
 rcases h.2 with ⟨rfl,_⟩ | ⟨g',cap,cur,rfl,_,hg',_⟩
 ·cases hv
 ·cases hv
  rw[hg]at hg'
  injection hg' with hg'
  injection hg' with _ hg' _
  exact he hg'.symm
theorem XG.grown {N r g cap:Nat} {s:ByteArray} {w:World} {gb:Nat} {wr:World} {what pos k:Nat} {t:PredP.Tok} {names names':List Str} {ats ids ats' ids':List Nat} {vN vA vE vN' vA' vE' v v':Value} (h:XG N r g cap s w gb wr what pos k t names ats ids vN vA vE) (hw:XGw N r g w gb)
  {W w2 w3:World} {j:Nat} (hb:Below wr.heap.size wr W) (hgrow:W.grownBy w2 v.ownBlock) (hw3:w3=w2.setCell ⟨gb,j,none⟩ v') (hvN:∀b,v.ownBlock=some b→N≤b) (hvg:v.ownBlock≠some gb) (hv':v'.ownBlock=v.ownBlock∨v'.ownBlock=some W.heap.size)
  (hcells:(#[vN,vA,vE,.slice none 0 0,.slice none 0 0,.slice none 0 0,.int .i64 0]:Array Value).setIfInBounds j v'=#[vN',vA',vE',.slice none 0 0,.slice none 0 0,.slice none 0 0,.int .i64 0])
  (hN:w2.ownsRow N 9 1 vN' names'.length (strC names')) (hA:w2.ownsRow N 3 1 vA' ats'.length (intC ats')) (hE:w2.ownsRow N 83 1 vE' ids'.length (ptrC ids'))
  (hOB:∀u,u∈[vN',vA',vE']→u=v'∨u∈[vN,vA,vE]) (hvm:v∈[vN,vA,vE]) :
  XG N r g cap s w gb w3 what pos k t names' ats' ids' vN' vA' vE'∧∀l,treesAt N [vN,vA,vE] wr l→treesAt N [vN',vA',vE'] w3 l:=by
 have hgl:gb<wr.heap.size:=(Array.getElem?_eq_some_iff.1 h.gbk).1
 have hWs:=hb.size
 have hgs:=hgrow.size
 have hrN:=hw.rN
 have hgN:=hw.gN
 have hgbN:=hw.gbN
 have hset:But gb w2 w3:=by rw[hw3];exact(But.refl gb w2).setCell rfl _
 have hss:=hset.size
 have hNs:=h.size
 have hblk:∀b,b<wr.heap.size→some b≠v.ownBlock→b≠gb→w3.heap[b]?=wr.heap[b]?:=fun b h1 h2 h3=>((hset.block b (by omega) h3).trans (hgrow.block b (by omega) h2)).trans (hb.block b h1)
 have hrow:∀b,b<N→some b≠v.ownBlock:=fun b h1 e=>by have:=hvN b e.symm;omega
 have hx2:w2.heap[gb]?=some (gramO vN vA vE):=((hgrow.block gb (by omega) (fun e=>hvg e.symm)).trans (hb.block gb hgl)).trans h.gbk
 have hx3:w3.heap[gb]?=some (gramO vN' vA' vE'):=by rw[hw3,setCell_block hx2,hcells]
 have hlw:=hw.lowG
 refine⟨⟨?_,?_,hx3,hN.kept hset.grown (.inr (gram_no hx2 hN (by decide))),hA.kept hset.grown (.inr (gram_no hx2 hA (by decide))),hE.kept hset.grown (.inr (gram_no hx2 hE (by decide))),by omega⟩,?_⟩
 ·rw[hw3]
  exact((h.rd.below hb).butOf hgrow (hrow r hrN) (hrow g hgN)).other (p:=⟨gb,j,none⟩) (by simpa using hw.ne.symm) (by simpa using hw.ng.symm) _
 ·refine⟨hset.os.trans (hgrow.os.trans (hb.os.trans h.low.os)),hset.tape.trans (hgrow.tape.trans (hb.tape.trans h.low.tape)),hset.output.trans (hgrow.output.trans (hb.output.trans h.low.output)),by have:=h.low.size;omega,fun b h1=>?_⟩
  have:=h.low.size
  have:=hw.lowR
  rw[hblk b (by omega) (hrow b (by omega)) (by omega)]
  exact h.low.block b h1
 ·intro l hl
  refine trees_carry hl (by omega) (fun b h1 h2 h3=>hblk b h2 (h3 v hvm) (by omega)) (fun b h1 h2 u hu=>?_)
  rcases hOB u hu with rfl | hu
  ·intro e
   rcases hv' with q | q
   ·rw[q]at e;exact h2 v hvm e
   ·rw[q]at e;simp at e;omega
  ·exact h2 u hu
structure XGG (N:Nat) (s:ByteArray) (o:PredP.Out (List Rule)) (wr:World) (t:PredP.Tok) (k:Nat) (names:List Str) (ats ids:List Nat) (vN vA vE:Value) (m:Nat) (acc:List Rule) (l:List PredP.X):Prop where
 out:o=PredP.preG acc (PredP.rulesF (bs s) (m+1) t)
 enough:2 * ((bs s).length - t.pos)+1≤m
 trees:treesAt N [vN,vA,vE] wr l
 nd:(l.flatMap PredP.X.all).Nodup
 rel:PredP.Trees acc l
 nm:names=acc.map (·.name)
 at':ats=acc.map (·.pos)
 id':ids=l.map PredP.X.id
 short:acc.length≤k
def RdR (N r g cap:Nat) (s:ByteArray) (w:World) (o:PredP.Out (List Rule)) (gb:Nat) (wr:World):Prop :=
 ∃what pos k t names ats ids vN vA vE,XG N r g cap s w gb wr what pos k t names ats ids vN vA vE ∧
  ((what=0∧pos=0∧∃m acc l,XGG N s o wr t k names ats ids vN vA vE m acc l)∨(∃p b,o=.bad p b∧what=codeOf b∧pos=p))
def NF (l:Str) (what pos:Nat) (t:PredP.Tok) (q what2 pos2:Nat) (t2:PredP.Tok):Prop :=
 (what≠0→what2=what∧pos2=pos)∧(what=0→t.kind=q→what2=0∧pos2=pos∧t2=PredP.tokFrom l t.to)∧(what=0→t.kind≠q→what2=4∧pos2=t.pos)
theorem rule_out {l:Str} {m:Nat} {t t1 t2 t3 t4:PredP.Tok} {w1 p1 w2 p2 w3 p3 w4 p4:Nat} {P:PredP.Rows→Prop} (h1:NF l 0 0 t 97 w1 p1 t1) (h2:NF l w1 p1 t1 61 w2 p2 t2)
  (h3:(w2≠0→w3=w2∧p3=p2)∧(w2=0→match PredP.expF l m 0 0 t2 with | .ok ex t'=>w3=0∧p3=0∧t3=t'∧P ex | .bad p b=>w3=codeOf b∧p3=p)) (h4:NF l w3 p3 t3 46 w4 p4 t4) :
  (∃p b,PredP.ruleF l m t=.bad p b∧w4=codeOf b∧p4=p)∨(∃ex,PredP.ruleF l m t=.ok ⟨PredP.cut l t.pos t.to,t.pos,ex⟩ t4∧w4=0∧p4=0∧P ex):=by
 unfold PredP.ruleF
 by_cases k1:t.kind=97
 ·obtain⟨rfl,rfl,rfl⟩:=h1.2.1 rfl k1
  rw[if_pos k1]
  by_cases k2:(PredP.tokFrom l t.to).kind=61
  ·obtain⟨rfl,rfl,rfl⟩:=h2.2.1 rfl k2
   rw[if_pos k2]
   have h3':=h3.2 rfl
   cases hx:PredP.expF l m 0 0 (PredP.tokFrom l (PredP.tokFrom l t.to).to) with
   | bad p b =>
    rw[hx]at h3'
    obtain⟨rfl,rfl⟩:=h3'
    obtain⟨rfl,rfl⟩:=h4.1 (by unfold codeOf;split<;>omega)
    exact .inl ⟨_,b,rfl,rfl,rfl⟩
   | ok ex t' =>
    rw[hx]at h3'
    obtain⟨rfl,rfl,rfl,hP⟩:=h3'
    by_cases k3:t3.kind=46
    ·obtain⟨rfl,rfl,rfl⟩:=h4.2.1 rfl k3
     exact .inr ⟨ex,by simp only[k3,if_true],rfl,rfl,hP⟩
    ·obtain⟨rfl,rfl⟩:=h4.2.2 rfl k3
     exact .inl ⟨_,false,by simp only[k3,if_false],rfl,rfl⟩
  ·obtain⟨rfl,rfl⟩:=h2.2.2 rfl k2
   obtain⟨rfl,rfl⟩:=h3.1 (by omega)
   obtain⟨rfl,rfl⟩:=h4.1 (by omega)
   rw[if_neg k2]
   exact .inl ⟨_,false,rfl,rfl,rfl⟩
 ·obtain⟨rfl,rfl⟩:=h1.2.2 rfl k1
  obtain⟨rfl,rfl⟩:=h2.1 (by omega)
  obtain⟨rfl,rfl⟩:=h3.1 (by omega)
  obtain⟨rfl,rfl⟩:=h4.1 (by omega)
  rw[if_neg k1]
  exact .inl ⟨_,false,rfl,rfl,rfl⟩
theorem trees_snoc {N n0:Nat} {OB:List Value} {w4:World} {l:List PredP.X} {x:PredP.X} (h:treesAt N OB w4 l) (hx:NewX n0 w4 x) (hn:N≤n0) (ho:∀v,v∈OB→∀b,v.ownBlock=some b→b<n0):treesAt N OB w4 (l++[x]):=by
 intro y hy
 rcases List.mem_append.1 hy with hy | hy
 ·exact h y hy
 ·rw[List.mem_singleton.1 hy]
  refine xAt.carry (Nat.le_refl _) ?_ ?_ x none hx.at'
  ·intro b hb _
   exact⟨⟨by omega,fun v hv e=>by have:=ho v hv b e.symm;omega⟩,rfl⟩
  ·rintro b ⟨hb,hn'⟩ _
   exact⟨⟨⟨by omega,hn'⟩,fun v hv e=>by have:=ho v hv b e.symm;omega⟩,rfl⟩
theorem Trees.snoc {q:Rule} {x:PredP.X} (hx:PredP.xE q.body x):∀{G:List Rule} {l:List PredP.X},PredP.Trees G l→PredP.Trees (G++[q]) (l++[x])
 | [],l,h=>by rw[PredP.Trees]at h;subst h;exact⟨x,[],rfl,hx,rfl⟩
 | r::G,l,h=>by
  rw[PredP.Trees]at h
  obtain⟨y,l',rfl,hy,h'⟩:=h
  exact⟨y,l'++[x],rfl,hy,Trees.snoc hx h'⟩
theorem RdR.next {N r g cap:Nat} {s:ByteArray} {w:World} {o:PredP.Out (List Rule)} {gb:Nat} {wr w4 w7:World} {k k4:Nat} {t t4:PredP.Tok} {names:List Str} {ats ids:List Nat} {vN vA vE vN' vA' vE':Value} {m n0 i what4 pos4:Nat} {acc:List Rule} {l:List PredP.X} {nm:Str} (hs:s.size≤400)
  (hX:XG N r g cap s w gb wr 0 0 k t names ats ids vN vA vE) (hG:XGG N s o wr t k names ats ids vN vA vE m acc l) (hk0:t.kind≠0) (hx4:XRd r g cap s k4 t4 0 what4 pos4 w4)
  (hout:(∃p b,PredP.ruleF (bs s) m t=.bad p b∧what4=codeOf b∧pos4=p)∨(∃ex,PredP.ruleF (bs s) m t=.ok ⟨PredP.cut (bs s) t.pos t.to,t.pos,ex⟩ t4∧what4=0∧pos4=0∧∃x:PredP.X,x.id=i∧PredP.xE ex x∧NewX n0 w4 x))
  (hn0:wr.heap.size≤n0) (hT4:∀l,treesAt N [vN,vA,vE] wr l→treesAt N [vN,vA,vE] w4 l)
  (hfin:XG N r g cap s w gb w7 what4 pos4 k4 t4 (names++[nm]) (ats++[t.pos]) (ids++[i]) vN' vA' vE') (hT7:∀l,treesAt N [vN,vA,vE] w4 l→treesAt N [vN',vA',vE'] w7 l)
  (hnm:t.kind=97→nm=PredP.cut (bs s) t.pos t.to):RdR N r g cap s w o gb w7∧xmu r w7<xmu r wr:=by
 have htl:=PredP.toks_length (bs s)
 rw[PredP.bs_length]at htl
 have hkl:=hX.rd.tok.2.2.2
 rcases hout with ⟨p,b,h1,rfl,rfl⟩ | ⟨ex,h1,rfl,rfl,x,hxi,hxe,hxn⟩
 ·refine⟨⟨_,_,k4,t4,_,_,_,_,_,_,hfin,.inr ⟨_,b,?_,rfl,rfl⟩⟩,?_⟩
  ·rw[hG.out,PredP.rulesF_bad hk0 h1];rfl
  ·rw[hfin.rd.mu,hX.rd.mu]
   have:codeOf b≠0:=by unfold codeOf;split<;>omega
   simp[this]
   omega
 ·have htok:=(PredP.toks_next hX.rd.tk).1
  obtain⟨ht4,hpos⟩:=PredP.ruleF_on htok h1
  have hlt:k<k4:=toks_idx hX.rd.tk hx4.tk hpos
  have hk97:t.kind=97:=by
   unfold PredP.ruleF at h1
   split at h1
   ·assumption
   ·cases h1
  have hnd:((l++[x]).flatMap PredP.X.all).Nodup:=by
   rw[List.flatMap_append,List.nodup_append]
   refine⟨hG.nd,by simpa using hxn.nd,?_⟩
   intro a ha b hb e
   subst e
   obtain⟨y,hy,hay⟩:=List.mem_flatMap.1 ha
   have h2:=xAt.ids y none (hG.trees y hy) a hay
   have h3:=xAt.ids x none hxn.at' a (by simpa using hb)
   omega
  have hm:=hG.enough
  obtain⟨m',rfl⟩:∃m',m=m'+1:=⟨m - 1,by omega⟩
  have hN:=hX.size
  refine⟨⟨0,0,k4,t4,_,_,_,_,_,_,hfin,.inl ⟨rfl,rfl,m',acc++[⟨PredP.cut (bs s) t.pos t.to,t.pos,ex⟩],l++[x],⟨?_,?_,hT7 _ (trees_snoc (hT4 _ hG.trees) hxn (by omega) (fun v hv b hb=>?_)),hnd,Trees.snoc hxe hG.rel,?_,?_,?_,?_⟩⟩⟩,?_⟩
  ·rw[hG.out,PredP.rulesF_more hk0 h1,PredP.preG_preG]
  ·have:=ht4.fits
   have h5:=Nat.le_trans this.1 this.2.1
   omega
  ·simp only[List.mem_cons,List.not_mem_nil,or_false]at hv
   rcases hv with rfl | rfl | rfl
   ·have:=(hX.ownN.lt b hb).2;omega
   ·have:=(hX.ownA.lt b hb).2;omega
   ·have:=(hX.ownE.lt b hb).2;omega
  ·rw[hG.nm,hnm hk97];simp
  ·rw[hG.at'];simp
  ·rw[hG.id',←hxi];simp
  ·have:=hG.short;simp;omega
  ·rw[hfin.rd.mu,hX.rd.mu]
   have:=hx4.tok.2.2.2
   simp
   omega
end
end Go.Proofs.YtpcmemcanpgadaaGreatDoor
