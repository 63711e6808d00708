import Derived.Test.YtpcmemcanpgadaaGreatDoorXRdG
import Derived.Test.YtpcmemcanpgadaaGreatDoorRowG
import Derived.Deep.RegionHeld
namespace Go
section
variable {P:Program} {ops:Array Oper} {Q:Exit→Act→World→Prop} {md:Region.Mode} {S:World→Prop} {t:Nat}
def wpAnyT (P:Program) (md:Region.Mode) (ops:Array Oper) (Q:Exit→Act→World→Prop) (S:World→Prop) (t:Nat):Nat→Array Bool→Act→World→Prop
 | 0,listed,a,w=>Region.ready md ops listed=[]∧Q .normal a w
 | fuel+1,listed,a,w =>
  (Region.ready md ops listed=[]→Q .normal a w) ∧
  ∀i∈Region.ready md ops listed,wpOp P ops Q i (fun a' w'=>(i≠t→S w')∧wpAnyT P md ops Q S t fuel (listed.setIfInBounds i true) a' w') a w
theorem wpAny_of_T:∀(fuel:Nat) (listed:Array Bool) (a:Act) (w:World),wpAnyT P md ops Q S t fuel listed a w→wpAny P md ops Q fuel listed a w
 | 0,_,_,_,h=>h
 | fuel+1,_,_,_,h=>⟨h.1,fun i hi=>wpOp_mono (fun a' w' h'=>wpAny_of_T fuel _ a' w' h'.2) (h.2 i hi)⟩
def waits (md:Region.Mode) (ops:Array Oper) (i:Nat):Nat→Nat→Bool
 | 0,_=>false
 | n+1,j=>match ops[j]? with
  | none=>false
  | some o=>o.after.toList.any fun e=>Region.binds md e&&(e.on==i||waits md ops i n e.on)
def upTo (md:Region.Mode) (ops:Array Oper) (listed:Array Bool):Prop :=
 ∀j o,ops[j]?=some o→listed.getD j false=true→∀e∈o.after,Region.binds md e=true→listed.getD e.on false=true
def upToB (md:Region.Mode) (ops:Array Oper) (listed:Array Bool):Bool :=
 (List.range ops.size).all fun j=>match ops[j]? with
  | none=>true
  | some o=>!(listed.getD j false)||o.after.toList.all fun e=>!(Region.binds md e)||listed.getD e.on false
theorem upTo_of {listed:Array Bool} (h:upToB md ops listed=true):upTo md ops listed:=by
 intro j o ho hj e he hb
 unfold upToB at h
 rw[List.all_eq_true]at h
 have:=h j (List.mem_range.2 (Array.getElem?_eq_some_iff.1 ho).1)
 rw[ho]at this
 simp only[Bool.or_eq_true,Bool.not_eq_true',List.all_eq_true]at this
 rcases this with h1 | h1
 ·rw[hj]at h1;cases h1
 ·rcases h1 e (Array.mem_toList_iff.2 he) with h2 | h2
  ·rw[hb]at h2;cases h2
  ·exact h2
theorem getD_set_self {listed:Array Bool} {j k:Nat} (h:listed.getD k false=true):(listed.setIfInBounds j true).getD k false=true:=by
 simp only[Array.getD_eq_getD_getElem?,Array.getElem?_setIfInBounds]at *
 split
 ·split
  ·rfl
  ·rename_i h1 h2
   subst h1
   rw[Array.getElem?_eq_none (by omega)]at h
   cases h
 ·exact h
theorem upTo_set {listed:Array Bool} {j:Nat} (h:upTo md ops listed) (hj:j∈Region.ready md ops listed):upTo md ops (listed.setIfInBounds j true):=by
 intro k o ho hk e he hb
 by_cases hkj:j=k
 ·subst hkj
  obtain⟨_,o',ho',hall⟩:=mem_ready.1 hj
  rw[ho]at ho'
  cases ho'
  exact getD_set_self (hall e he hb)
 ·refine getD_set_self (h k o ho ?_ e he hb)
  simp only[Array.getD_eq_getD_getElem?,Array.getElem?_setIfInBounds,if_neg hkj]at *
  exact hk
theorem waits_listed {listed:Array Bool} (h:upTo md ops listed) {i:Nat}:∀(n j:Nat),waits md ops i n j=true→(∀o,ops[j]?=some o→∀e∈o.after,Region.binds md e=true→listed.getD e.on false=true)→listed.getD i false=true
 | 0,_,hw,_=>by simp[waits]at hw
 | n+1,j,hw,hj=>by
  rw[waits]at hw
  split at hw
  ·cases hw
  ·rename_i o ho
   rw[List.any_eq_true]at hw
   obtain⟨e,he,hw⟩:=hw
   simp only[Bool.and_eq_true,Bool.or_eq_true,beq_iff_eq]at hw
   have hl:=hj o ho e (Array.mem_toList_iff.1 he) hw.1
   rcases hw.2 with h1 | h1
   ·rw[←h1];exact hl
   ·exact waits_listed h n e.on h1 (fun o' ho' e' he' hb'=>h e.on o' ho' hl e' he' hb')
theorem wpAnyT_first {i:Nat} {oi:Oper} {v:Value} (hi:ops[i]?=some oi) (hsel:∀(j:Nat) (o:Oper) cs b,ops[j]?=some o→o.op≠.select cs b)
  (hQ:∀c a w,Q (.panic c) (a.put oi.dst v) w→Q (.panic c) a w) (hwt:waits md ops i ops.size t=true) :
  ∀(fuel:Nat) (listed:Array Bool) (a:Act) (w:World),
   (∀j oj,ops[j]?=some oj→j≠i→listed.getD j true=false→(∀e∈oj.after,Region.binds md e=true→e.on≠i)→oi.apart ops oj=true) →
   upTo md ops listed→i∈Region.ready md ops listed→YieldsIf P ops S oi v a→S w →
   wpAnyT P md ops Q S t fuel (listed.setIfInBounds i true) (a.put oi.dst v) w→wpAnyT P md ops Q S t (fuel+1) listed a w:=by
 intro fuel
 induction fuel with
 | zero =>
  intro listed a w _ _ hr hy hS H
  refine⟨fun h=>(by rw[h]at hr;cases hr),fun j hj=>?_⟩
  by_cases hji:j=i
  ·subst hji;exact hy.wpOp hi hS ⟨fun _=>hS,H⟩
  ·have:=ready_mono hj hji
   rw[H.1]at this
   cases this
 | succ fuel ih =>
  intro listed a w hfree hup hr hy hS H
  refine⟨fun h=>(by rw[h]at hr;cases hr),fun j hj=>?_⟩
  by_cases hji:j=i
  ·subst hji;exact hy.wpOp hi hS ⟨fun _=>hS,H⟩
  ·have hjt:j≠t:=fun e=>by
    subst e
    obtain⟨_,o,ho,hall⟩:=mem_ready.1 hj
    have h1:=waits_listed hup ops.size j hwt (fun o' ho'=>by rw[ho]at ho';cases ho';exact hall)
    have h0:=(mem_ready.1 hr).1
    simp only[Array.getD_eq_getD_getElem?]at h0 h1
    cases hc:listed[i]? with
    | none=>rw[hc]at h1;cases h1
    | some b=>rw[hc]at h0 h1;simp at h0 h1;rw[h0]at h1;cases h1
   have h1:=H.2 j (ready_mono hj hji)
   obtain⟨hjun,oj,hoj,hall⟩:=mem_ready.1 hj
   have hnot:∀e∈oj.after,Region.binds md e=true→e.on≠i:=fun e he hb heq=>by
    have h1:=hall e he hb
    have h0:=(mem_ready.1 hr).1
    rw[heq]at h1
    rcases Nat.lt_or_ge i listed.size with h' | h'
    ·simp[h']at h0 h1;rw[h0]at h1;cases h1
    ·simp[Array.getElem?_eq_none h']at h1
   have h2:=wpOp_putIf hoj (hfree j oj hoj hji hjun hnot) (fun cs b=>hsel i oi cs b hi) (fun cs b=>hsel j oj cs b hoj) hQ hy h1
   have hfree':∀k ok,ops[k]?=some ok→k≠i→(listed.setIfInBounds j true).getD k true=false →
     (∀e∈ok.after,Region.binds md e=true→e.on≠i)→oi.apart ops ok=true:=fun k ok hk hki hun hno=>by
    refine hfree k ok hk hki ?_ hno
    by_cases hjk:j=k
    ·subst hjk;exact hjun
    ·rw[getD_set_ne true hjk]at hun;exact hun
   refine wpOp_mono (fun a' w' h3=>⟨fun _=>h3.2.1 hjt,ih (listed.setIfInBounds j true) a' w' hfree' (upTo_set hup hj) (ready_mono hr (Ne.symm hji)) h3.1 (h3.2.1 hjt) ?_⟩) h2
   rw[Array.setIfInBounds_comm _ _ hji]
   exact h3.2.2
theorem wpAnyT_take {i:Nat} {oi:Oper} {v:Value} {fuel:Nat} {listed:Array Bool} {a:Act} {w:World} (hi:ops[i]?=some oi)
  (hs:Region.noSelect ops=true) (hf:(Region.free md ops listed i&&((Region.ready md ops listed).contains i&&(upToB md ops listed&&waits md ops i ops.size t)))=true)
  (hQ:∀c a w,Q (.panic c) (a.put oi.dst v) w→Q (.panic c) a w) (hy:YieldsIf P ops S oi v a) (hS:S w)
  (h:wpAnyT P md ops Q S t fuel (listed.setIfInBounds i true) (a.put oi.dst v) w):wpAnyT P md ops Q S t (fuel+1) listed a w:=by
 simp only[Bool.and_eq_true]at hf
 exact wpAnyT_first hi (Region.noSelect_spec hs) hQ hf.2.2.2 fuel listed a w (Region.free_spec hi hf.1) (upTo_of hf.2.2.1) (by simpa using hf.2.1) hy hS h
theorem wpAnyT_one {i:Nat} {o:Oper} {fuel:Nat} {listed:Array Bool} {a:Act} {w:World} (hr:Region.ready md ops listed=[i]) (ho:ops[i]?=some o)
  (h:∀K':Act→World→Prop,Shut (∀a w,(i≠t→S w)→wpAnyT P md ops Q S t fuel (listed.setIfInBounds i true) a w→K' a w)→if Region.wanted o (yielded ops a.tmps)=true then Oper.wp P o a w K' Q else K' (a.put o.dst undef) w) :
  wpAnyT P md ops Q S t (fuel+1) listed a w:=by
 refine⟨fun h0=>(by rw[h0]at hr;cases hr),fun j hj=>?_⟩
 rw[hr,List.mem_singleton]at hj
 subst hj
 have:=h (fun a' w'=>(j≠t→S w')∧wpAnyT P md ops Q S t fuel (listed.setIfInBounds j true) a' w') (fun a w h1 h2=>⟨h1,h2⟩)
 unfold wpOp
 rw[ho]
 simp only
 split
 ·rename_i hw;rw[if_pos hw]at this;exact .inl this
 ·rename_i hw;rw[if_neg hw]at this;exact this
theorem wpAnyT_done {listed:Array Bool} {a:Act} {w:World} (hr:Region.ready md ops listed=[]) (h:Q .normal a w) :
  ∀fuel,wpAnyT P md ops Q S t fuel listed a w
 | 0=>⟨hr,h⟩
 | _+1=>⟨fun _=>h,by rw[hr];simp⟩
theorem wp_region_T (S:World→Prop) (t:Nat) {id:Nat} {a:Act} {w:World} (hm:P.follows .mixedOrders=true) (hS:S w.drew)
  (h:S w.drew→wpAnyT P .any ops Q S t ops.size (Array.replicate ops.size false) a w.drew):(Code.region id ops true).wp P Q a w :=
 wp_region_any hm (wpAny_of_T _ _ _ _ (h hS))
end
end Go
namespace Go.Proofs.YtpcmemcanpgadaaGreatDoor
open PredP (hide Str Rule bs)
open Go.RowKit
def codeOf (b:Bool):Nat:=if b then 5 else 4
def RowX (r g cap:Nat) (s:ByteArray) (d:Nat) (w:World) (o:PredP.Out PredP.Parts) (e:Ending) (w':World):Prop :=
 But r w w'∧∃i,e=.returned (.pointer (some ⟨i,0,none⟩))∧w.heap.size≤i∧match o with
 | .ok ps t'=>∃p l k,PredP.xR ps l∧NewX w.heap.size w' (.mk i .row p [] [] l)∧XRd r g cap s k t' d 0 0 w'
 | .bad p b=>∃k t',XRd r g cap s k t' d (codeOf b) p w'
def ChX (r g cap:Nat) (s:ByteArray) (d:Nat) (w:World) (o:PredP.Out PredP.Rows) (e:Ending) (w':World):Prop :=
 But r w w'∧∃i,e=.returned (.pointer (some ⟨i,0,none⟩))∧w.heap.size≤i∧match o with
 | .ok ex t'=>∃x k,x.id=i∧PredP.xE ex x∧NewX w.heap.size w' x∧XRd r g cap s k t' d 0 0 w'
 | .bad p b=>∃k t',XRd r g cap s k t' d (codeOf b) p w'
def ChC (s:ByteArray) (m:Nat):Prop:=∀(r g cap k:Nat) (t:PredP.Tok) (d:Nat) (w:World),XRd r g cap s k t d 0 0 w→d≤10→PredP.Enough (bs s) t m →
 Calls Tryz.prog 33 #[.pointer (some ⟨r,0,none⟩)] w (ChX r g cap s d w (PredP.expF (bs s) (m+1) d 0 t))
structure XRow (N r g cap:Nat) (s:ByteArray) (d:Nat) (w:World) (o:PredP.Out PredP.Parts) (bx p0:Nat) (wr:World) (acc:PredP.Parts) (t:PredP.Tok) (k m:Nat) (l:PredP.Xs) (v:Value):Prop where
 out:o=PredP.preP acc (PredP.rowF (bs s) m d t)
 enough:PredP.Enough (bs s) t m
 rd:XRd r g cap s k t d 0 0 wr
 but:But r w wr
 ge:w.heap.size≤bx
 xb:wr.heap[bx]?=some (expO .row p0 [] v (.slice none 0 0) (.pointer none) 0 0)
 own:wr.ownsRow w.heap.size 83 1 v l.ids.length (ptrC l.ids)
 kids:xsAt (fun b=>w.heap.size≤b∧b≠bx∧some b≠v.ownBlock) (fun b=>(w.heap.size≤b∧noExp wr b)∧some b≠v.ownBlock) wr none l
 nd:l.all.Nodup
 rel:PredP.xR acc l
 short:l.ids.length≤k
 le:m≤N
theorem noExp.same {w w':World} {b:Nat} (h:noExp w b) (e:w'.heap[b]?=w.heap[b]?):noExp w' b:=fun cs f=>by rw[e];exact h cs f
theorem XRd.butOf {r g cap:Nat} {s:ByteArray} {k:Nat} {t:PredP.Tok} {d what pos:Nat} {w w':World} {row:Option Nat} (h:XRd r g cap s k t d what pos w) (hg:w.grownBy w' row) (hr:some r≠row) (hgg:some g≠row):XRd r g cap s k t d what pos w' :=
 have q:=fun k=>World.cell?_of_block (a:=⟨r,k,none⟩) (hg.block r h.lt hr)
 ⟨(q 0).trans h.c0,(q 1).trans h.c1,(q 2).trans h.c2,(q 3).trans h.c3,(q 4).trans h.c4,(q 5).trans h.c5,Nat.lt_of_lt_of_le h.lt hg.size,fun k=>(World.frozen?_of_block (a:=⟨r,k,none⟩) (hg.block r h.lt hr)).trans (h.fz k),Nat.lt_of_lt_of_le h.gl hg.size,h.ne,fun j v hv=>(World.cell?_of_block (a:=⟨g,j,none⟩) (hg.block g h.gl hgg)).trans (h.tks j v hv),h.tk⟩
theorem setCell_block {w:World} {b k:Nat} {cs:Array Value} {ty:TypeId} {f:Nat×Nat} (h:w.heap[b]?=some (.cells cs ty f)) (u:Value):(w.setCell ⟨b,k,none⟩ u).heap[b]?=some (.cells (cs.setIfInBounds k u) ty f):=Joins.block_setCell h u
theorem XRow.push {N r g cap:Nat} {s:ByteArray} {d:Nat} {w:World} {o:PredP.Out PredP.Parts} {bx p0:Nat} {wr:World} {acc:PredP.Parts} {t:PredP.Tok} {k m:Nat} {l:PredP.Xs} {v:Value} (hR:XRow N r g cap s d w o bx p0 wr acc t k m l v)
  (hr:r<w.heap.size) (hg0:g<w.heap.size) {W w2 w3:World} {x:PredP.X} {q:PredP.Part} {v':Value} {k':Nat} {t':PredP.Tok} {what pos:Nat} (hbut:But r wr W) (hrd:XRd r g cap s k' t' d what pos W)
  (hx:xAt (fun b=>wr.heap.size≤b) (fun b=>wr.heap.size≤b∧noExp W b) W none x) (hnd:x.all.Nodup) (hp:PredP.xP q x)
  (hgrow:W.grownBy w2 v.ownBlock) (hown:w2.ownsRow w.heap.size 83 1 v' (l.ids.length+1) (ptrC l.ids++[.pointer (some ⟨x.id,0,none⟩)])) (hloc:v'.ownBlock=v.ownBlock∨v'.ownBlock=some W.heap.size)
  (hw3:w3=w2.setCell ⟨bx,3,none⟩ v') :
  XRd r g cap s k' t' d what pos w3∧But r w w3∧w3.heap[bx]?=some (expO .row p0 [] v' (.slice none 0 0) (.pointer none) 0 0)∧w3.ownsRow w.heap.size 83 1 v' (l.snoc x).ids.length (ptrC (l.snoc x).ids) ∧
   xsAt (fun b=>w.heap.size≤b∧b≠bx∧some b≠v'.ownBlock) (fun b=>(w.heap.size≤b∧noExp w3 b)∧some b≠v'.ownBlock) w3 none (l.snoc x)∧(l.snoc x).all.Nodup∧PredP.xR (acc.app (.cons q .nil)) (l.snoc x):=by
 have hlt:=hR.own.lt
 have hsz:=hR.but.size
 have hge:=hR.ge
 have hbx:bx<wr.heap.size:=(Array.getElem?_eq_some_iff.1 hR.xb).1
 have hWs:=hbut.size
 have hgs:=hgrow.size
 have hvb:v.ownBlock≠some bx:=fun e=>by
  have:=own_noExp hR.own (by decide) e
  exact this _ _ hR.xb
 have hvb':v'.ownBlock≠some bx:=fun e=>by
  rcases hloc with q | q
  ·rw[q]at e;exact hvb e
  ·rw[q]at e;simp at e;omega
 have hset:But bx w2 w3:=by rw[hw3];exact(But.refl bx w2).setCell rfl _
 have hblk:∀b,b<W.heap.size→some b≠v.ownBlock→b≠bx→w3.heap[b]?=W.heap[b]?:=fun b hb h1 h2=>(hset.block b (Nat.lt_of_lt_of_le hb hgs) h2).trans (hgrow.block b hb h1)
 have hrow:∀b,b<w.heap.size→some b≠v.ownBlock:=fun b hb e=>by have:=(hlt b e.symm).1;omega
 refine⟨?_,?_,?_,?_,?_,?_,PredP.xR_snoc hp acc l hR.rel⟩
 ·rw[hw3]
  exact(hrd.butOf hgrow (hrow r hr) (hrow g hg0)).other (p:=⟨bx,3,none⟩) (by simp;omega) (by simp;omega) _
 ·refine⟨hset.os.trans (hgrow.os.trans (hbut.os.trans hR.but.os)),hset.tape.trans (hgrow.tape.trans (hbut.tape.trans hR.but.tape)),hset.output.trans (hgrow.output.trans (hbut.output.trans hR.but.output)),by have:=hset.size;omega,fun b hb hne=>?_⟩
  rw[hblk b (by omega) (hrow b hb) (by omega),hbut.block b (by omega) hne]
  exact hR.but.block b hb hne
 ·have h2:w2.heap[bx]?=some (expO .row p0 [] v (.slice none 0 0) (.pointer none) 0 0):=by
   rw[hgrow.block bx (by omega) (fun e=>hvb e.symm),hbut.block bx hbx (by omega)]
   exact hR.xb
  rw[hw3,setCell_block h2]
  rfl
 ·have:=hown.kept hset.grown (.inr hvb')
  rw[PredP.Xs.ids_snoc]
  unfold ptrC at this ⊢
  simpa using this
 ·refine xsAt.snoc ?_ l ?_
  ·refine xAt.carry (by have:=hset.size;omega) ?_ ?_ x none hx
   ·intro b hb hbW
    refine⟨⟨by omega,by omega,fun e=>?_⟩,hblk b hbW (fun e=>by have:=(hlt b e.symm).2;omega) (by omega)⟩
    rcases hloc with q | q
    ·rw[q]at e;have:=(hlt b e.symm).2;omega
    ·rw[q]at e;simp at e;omega
   ·rintro b ⟨hb,hn⟩ hbW
    have hs:=hblk b hbW (fun e=>by have:=(hlt b e.symm).2;omega) (by omega)
    refine⟨⟨⟨by omega,hn.same hs⟩,fun e=>?_⟩,hs⟩
    rcases hloc with q | q
    ·rw[q]at e;have:=(hlt b e.symm).2;omega
    ·rw[q]at e;simp at e;omega
  ·refine xsAt.carry (by have:=hset.size;omega) ?_ ?_ l none hR.kids
   ·rintro b ⟨hb,hn,hnv⟩ hbw
    refine⟨⟨hb,hn,fun e=>?_⟩,(hblk b (by omega) hnv hn).trans (hbut.block b hbw (by omega))⟩
    rcases hloc with q | q
    ·rw[q]at e;exact hnv e
    ·rw[q]at e;simp at e;omega
   ·rintro b ⟨⟨hb,hn⟩,hnv⟩ hbw
    have hbn:b≠bx:=fun e=>by subst e;exact hn _ _ hR.xb
    have hs:=(hblk b (by omega) hnv hbn).trans (hbut.block b hbw (by omega))
    refine⟨⟨⟨hb,hn.same hs⟩,fun e=>?_⟩,hs⟩
    rcases hloc with q | q
    ·rw[q]at e;exact hnv e
    ·rw[q]at e;simp at e;omega
 ·rw[PredP.Xs.all_snoc,List.nodup_append]
  refine⟨hR.nd,hnd,?_⟩
  intro a ha b hb e
  subst e
  have h1:=xsAt.ids l none hR.kids a ha
  have h2:=xAt.ids x none hx a hb
  omega
def xmu (r:Nat) (wr:World):Nat :=
 match wr.cell? ⟨r,3,none⟩,wr.cell? ⟨r,1,none⟩ with
 | some (.int _ f),some (.int _ k)=>if f=0 then 500 - k.toNat else 0
 | _,_=>0
theorem XRd.mu {r g cap:Nat} {s:ByteArray} {k:Nat} {t:PredP.Tok} {d what pos:Nat} {w:World} (h:XRd r g cap s k t d what pos w):xmu r w=if what=0 then 500 - k else 0:=by
 unfold xmu
 rw[h.c3,h.c1]
 simp
def kinds:List Nat:=[0,1,97,34,61,46,124,91,93,123,125,40,41]
theorem here_kind (i:Nat) (m:Str):(PredP.tokHere i m).kind∈kinds:=by
 cases m with
 | nil=>simp[PredP.tokHere,kinds]
 | cons c r =>
  simp only[PredP.tokHere]
  split
  ·split<;>simp[kinds]
  ·split
   ·split<;>simp[kinds]
   ·split
    ·rename_i h
     rw[PredP.sign_int]at h
     simp only[decide_eq_true_eq]at h
     unfold kinds
     simp only[List.mem_cons]
     omega
    ·simp[kinds]
theorem kind_mem {l:Str} {t:PredP.Tok} (h:PredP.IsTok l t):t.kind∈kinds:=by
 obtain⟨i,_,rfl⟩:=h
 exact here_kind _ _
theorem kind_eq:∀a,a∈kinds→∀b,b∈kinds→((kindB a).toList==(kindB b).toList)=(a==b):=by
 simp only[ByteArray.toList_eq]
 decide
theorem kind_is {s:ByteArray} {k:Nat} {t:PredP.Tok} (h:(PredP.toks (bs s))[k]?=some t) (q:Nat) (hq:q∈kinds):((kindB t.kind).toList==(kindB q).toList)=(t.kind==q) :=
 kind_eq _ (kind_mem (PredP.toks_next h).1) _ hq
theorem infoPExp:(Tryz.prog.info? 83).map (fun i=>(i.zero,i.size,i.bytes))=some (some (.pointer none),1,8):=by kernel_rfl
theorem isx_of {s:ByteArray} {k:Nat} {t:PredP.Tok} {q:Nat} {o:Bool} (h:(PredP.toks (bs s))[k]?=some t∧q∈kinds∧(t.kind==q)=o):((0:Nat)==0&&(kindB t.kind).toList==(kindB q).toList)=o:=by
 rw[kind_is h.1 q h.2.1,h.2.2];rfl
theorem isx_yes {s:ByteArray} {k:Nat} {t:PredP.Tok} {q:Nat} (h:(PredP.toks (bs s))[k]?=some t) (hq:q∈kinds) (e:t.kind=q):(PredP.toks (bs s))[k]?=some t∧q∈kinds∧(t.kind==q)=true:=⟨h,hq,by simpa using e⟩
theorem isx_not {s:ByteArray} {k:Nat} {t:PredP.Tok} {q:Nat} (h:(PredP.toks (bs s))[k]?=some t) (hq:q∈kinds) (e:t.kind≠q):(PredP.toks (bs s))[k]?=some t∧q∈kinds∧(t.kind==q)=false:=⟨h,hq,by simpa using e⟩
theorem one_new (w:World) (x y z:Value) (ty:Nat):Below w.heap.size w (w.alloc (.cells #[x,y,z] ty)).drew∧(w.alloc (.cells #[x,y,z] ty)).drew.heap.size=w.heap.size+1∧(w.alloc (.cells #[x,y,z] ty)).drew.cell? ⟨w.heap.size,0,none⟩=some x∧(w.alloc (.cells #[x,y,z] ty)).drew.cell? ⟨w.heap.size,1,none⟩=some y∧(w.alloc (.cells #[x,y,z] ty)).drew.cell? ⟨w.heap.size,2,none⟩=some z :=
 ⟨((Below.refl _ w).alloc (Nat.le_refl _) _).drew,by simp[World.drew],cell_fresh (w:=w) rfl,cell_fresh (w:=w) rfl,cell_fresh (w:=w) rfl⟩
theorem al {w:World} {o:Obj} {a:Addr} {v:Value} (h:w.cell? a=some v):(w.alloc o).cell? a=some v:=(World.cell?_alloc_some w a o (by rw[h];rfl)).trans h
theorem XRow.zero {n r g cap:Nat} {s:ByteArray} {d:Nat} {w:World} {o:PredP.Out PredP.Parts} {k0:Nat} {t0:PredP.Tok} (ho:PredP.rowF (bs s) n d t0=o) (hrd:XRd r g cap s k0 t0 d 0 0 w) (hn:PredP.Enough (bs s) t0 n) :
  XRow n r g cap s d w o w.heap.size t0.pos (w.alloc (expO .row t0.pos [] (.slice none 0 0) (.slice none 0 0) (.pointer none) 0 0)).drew .nil t0 k0 n .nil (.slice none 0 0):=by
 have hB:Below w.heap.size w (w.alloc (expO .row t0.pos [] (.slice none 0 0) (.slice none 0 0) (.pointer none) 0 0)).drew:=((Below.refl _ w).alloc (Nat.le_refl _) _).drew
 exact⟨by rw[PredP.preP_nil];exact ho.symm,hn,hrd.below hB,But.of_below hB,Nat.le_refl _,heap_alloc_new w _,World.ownsRow_nil _ _ _ _,by unfold xsAt;trivial,by rw[PredP.Xs.all];exact List.nodup_nil,by rw[PredP.xR],Nat.zero_le _,Nat.le_refl _⟩
theorem XRow.ends {N r g cap:Nat} {s:ByteArray} {d:Nat} {w:World} {o:PredP.Out PredP.Parts} {bx p0:Nat} {wr wt:World} {acc:PredP.Parts} {t:PredP.Tok} {k m:Nat} {l:PredP.Xs} {v:Value} (hR:XRow N r g cap s d w o bx p0 wr acc t k (m+1) l v)
  (hb:Below wr.heap.size wr wt) (h1:t.kind≠97) (h2:t.kind≠34) (h3:PredP.brOf t.kind=none):RowX r g cap s d w o (.returned (.pointer (some ⟨bx,0,none⟩))) wt:=by
 have hbut:=hR.but.trans (But.of_below hb)
 have hbx:bx<wr.heap.size:=(Array.getElem?_eq_some_iff.1 hR.xb).1
 refine⟨hbut,bx,rfl,hR.ge,?_⟩
 rw[hR.out,PredP.rowF_end h1 h2 h3]
 simp only[PredP.preP,PredP.Parts.app_nil]
 have hsl:slAt (fun b=>w.heap.size≤b∧noExp wr b) wr 1 v (ptrC l.ids):=slAt.of_owns hR.own (fun g hg=>⟨(hR.own.lt g hg).1,own_noExp hR.own (by decide) hg⟩)
 have hA:∀b,(w.heap.size≤b∧noExp wr b)→b<wr.heap.size→(w.heap.size≤b∧noExp wt b)∧wt.heap[b]?=wr.heap[b]?:=fun b hb' hl=>⟨⟨hb'.1,hb'.2.same (hb.block b hl)⟩,hb.block b hl⟩
 refine⟨p0,l,k,hR.rel,⟨?_,?_⟩,hR.rd.below hb⟩
 ·unfold xAt
  exact⟨hR.ge,by simp,v,_,_,0,0,(hb.block bx hbx).trans hR.xb,slAt.carry hb.size hA hsl,.inl ⟨rfl,rfl⟩,(fun x h=>by cases h),xsAt.carry hb.size (fun b hb' hl=>⟨hb'.1,hb.block b hl⟩) (fun b hb' hl=>hA b hb'.1 hl) l _ hR.kids⟩
 ·rw[PredP.X.all,List.nodup_cons]
  refine⟨fun h=>?_,hR.nd⟩
  exact(xsAt.ids l none hR.kids bx h).1.2.1 rfl
theorem leaf_at {n:Nat} {W:World} {o:PredP.XOp} {p:Nat} {s:Str} (ho:Obj) (hn:n≤W.heap.size) (hs:s.length≤400) :
  xAt (fun b=>n≤b) (fun b=>n≤b∧noExp ((W.alloc (expO o p s (.slice none 0 0) (.slice none 0 0) (.pointer none) 0 0)).alloc ho) b) ((W.alloc (expO o p s (.slice none 0 0) (.slice none 0 0) (.pointer none) 0 0)).alloc ho) none (.mk W.heap.size o p s [] .nil):=by
 unfold xAt
 refine⟨hn,hs,.slice none 0 0,.slice none 0 0,.pointer none,0,0,?_,.inl ⟨rfl,rfl⟩,.inl ⟨rfl,rfl⟩,(fun x h=>by cases h),by unfold xsAt;trivial⟩
 rw[Below.heap_alloc _ _ _ (by simp),heap_alloc_new]
theorem leaf_text {s:ByteArray} {t:PredP.Tok} (hs:s.size≤400) :
  (t.kind=97→(Value.string (textB s t)=vS (PredP.cut (bs s) t.pos t.to)∧(PredP.cut (bs s) t.pos t.to).length≤400)) ∧
  (t.kind=34→(Value.string (textB s t)=vS (PredP.cut (bs s) (t.pos+1) (t.to - 1))∧(PredP.cut (bs s) (t.pos+1) (t.to - 1)).length≤400)):=by
 have hl:∀i j,(PredP.cut (bs s) i j).length≤400:=fun i j=>by
  unfold PredP.cut
  rw[List.length_take,List.length_drop,PredP.bs_length]
  omega
 refine⟨fun h=>⟨?_,hl _ _⟩,fun h=>⟨?_,hl _ _⟩⟩
 ·rw[←bs_extract,vS_bs,textB,if_pos h]
 ·rw[←bs_extract,vS_bs,textB,if_neg (by omega),if_pos h]
theorem leaf_step {N r g cap:Nat} {s:ByteArray} {d:Nat} {w:World} {o:PredP.Out PredP.Parts} {bx p0:Nat} {wr:World} {acc:PredP.Parts} {t:PredP.Tok} {k m:Nat} {l:PredP.Xs} {v:Value} (hR:XRow N r g cap s d w o bx p0 wr acc t k (m+1) l v) (hs:s.size≤400)
  (hr:r<w.heap.size) (hg0:g<w.heap.size) {wk w2 w3:World} {op:PredP.XOp} {txt:Str} {q:PredP.Part} {v':Value} {ty:Nat} (hbut:But r wr wk) (hrd:XRd r g cap s (k+1) (PredP.tokFrom (bs s) t.to) d 0 0 wk) (htxt:txt.length≤400)
  (hp:∀i,PredP.xP q (.mk i op t.pos txt [] .nil)) (hl:t.last=false) (hq:PredP.rowF (bs s) (m+1) d t=PredP.preP (.cons q .nil) (PredP.rowF (bs s) m d (PredP.tokFrom (bs s) t.to)))
  (hown:w2.ownsRow w.heap.size 83 1 v' (l.ids.length+1) (ptrC l.ids++[.pointer (some ⟨wk.heap.size,0,none⟩)]))
  (hgrow:((wk.drew.alloc (expO op t.pos txt (.slice none 0 0) (.slice none 0 0) (.pointer none) 0 0)).alloc (.cells #[.pointer (some ⟨wk.heap.size,0,none⟩)] ty)).grownBy w2 v.ownBlock)
  (hloc:v'.ownBlock=v.ownBlock∨v'.ownBlock=some ((wk.drew.alloc (expO op t.pos txt (.slice none 0 0) (.slice none 0 0) (.pointer none) 0 0)).alloc (.cells #[.pointer (some ⟨wk.heap.size,0,none⟩)] ty)).heap.size)
  (hw3:w3=w2.setCell ⟨bx,3,none⟩ v'):(∃acc t k m l v,XRow N r g cap s d w o bx p0 w3 acc t k m l v)∧xmu r w3<xmu r wr:=by
 have hB:Below wk.heap.size wk ((wk.drew.alloc (expO op t.pos txt (.slice none 0 0) (.slice none 0 0) (.pointer none) 0 0)).alloc (.cells #[.pointer (some ⟨wk.heap.size,0,none⟩)] ty)):=((Below.refl _ wk).drew.alloc (Nat.le_refl _) _).alloc (by simp only[World.size_alloc];exact Nat.le_succ _) _
 have hx:=leaf_at (n:=wr.heap.size) (W:=wk.drew) (o:=op) (p:=t.pos) (s:=txt) (.cells #[.pointer (some ⟨wk.heap.size,0,none⟩)] ty) hbut.size htxt
 obtain⟨a1,a2,a3,a4,a5,a6,a7⟩:=hR.push hr hg0 (hbut.trans (But.of_below hB)) (hrd.below hB) hx (by rw[PredP.X.all,PredP.Xs.all];simp) (hp _) hgrow hown hloc hw3
 have hfit:=(PredP.toks_next hR.rd.tk).1.fits
 have hen:=(PredP.Enough.next hR.enough hfit (PredP.last_false hl)).1
 refine⟨⟨_,_,k+1,m,_,v',?_,hen.mono (by omega),a1,a2,hR.ge,a3,a4,a5,a6,a7,?_,Nat.le_of_succ_le hR.le⟩,?_⟩
 ·rw[hR.out,hq,PredP.preP_preP]
 ·have:=hR.short
  rw[PredP.Xs.ids_snoc];simp;omega
 ·rw[a1.mu,hR.rd.mu]
  have h1:=hR.rd.tok.2.2.2
  have h2:=PredP.toks_length (bs s)
  have h3:=a1.tok.2.2.2
  rw[PredP.bs_length]at h2
  simp
  omega
theorem leaf_store {wk w2:World} {o o':Obj} {bx:Nat} {p:Int} {L:Value} {row:Option Nat} (h:wk.heap[bx]?=some (expO .row p [] L (.slice none 0 0) (.pointer none) 0 0)) (hl:bx<wk.heap.size) (hv:row≠some bx) (hg:((wk.drew.alloc o).alloc o').grownBy w2 row) :
  w2.cell? ⟨bx,3,none⟩=some L∧w2.frozen? ⟨bx,3,none⟩=false:=by
 have e:w2.heap[bx]?=some (expO .row p [] L (.slice none 0 0) (.pointer none) 0 0):=by
  rw[hg.block bx (by simp only[World.size_alloc];exact Nat.lt_succ_of_lt (Nat.lt_succ_of_lt hl)) (fun e=>hv e.symm),Below.heap_alloc _ _ _ (by simp only[World.size_alloc];exact Nat.lt_succ_of_lt hl),show(wk.drew.alloc o).heap[bx]?=wk.drew.heap[bx]? from Below.heap_alloc _ _ _ hl]
  exact h
 constructor
 ·simp only[World.cell?,e];rfl
 ·simp only[World.frozen?,e];rfl
theorem leaf_box {wk w2:World} {o o':Obj} {b k:Nat} {u:Value} {row:Option Nat} (h:wk.cell? ⟨b,k,none⟩=some u) (hl:b<wk.heap.size) (hv:row≠some b) (hg:((wk.drew.alloc o).alloc o').grownBy w2 row):w2.cell? ⟨b,k,none⟩=some u:=by
 rw[World.cell?_of_block (a:=⟨b,k,none⟩) (hg.block b (by simp only[World.size_alloc];exact Nat.lt_succ_of_lt (Nat.lt_succ_of_lt hl)) (fun e=>hv e.symm)),World.cell?_alloc_past _ _ _ (by simp only[World.size_alloc];exact Nat.lt_succ_of_lt hl),show(wk.drew.alloc o).cell? ⟨b,k,none⟩=wk.drew.cell? ⟨b,k,none⟩ from World.cell?_alloc_past _ _ _ hl]
 exact h
theorem toks_up {l:Str} {i:Nat} {a:PredP.Tok} (ha:(PredP.toks l)[i]?=some a):∀(n:Nat) {b:PredP.Tok},(PredP.toks l)[i+n]?=some b→a.pos+n≤b.pos
 | 0,b,hb=>by rw[Nat.add_zero,ha]at hb;cases hb;exact Nat.le_refl _
 | n+1,b,hb=>by
  have hlt:i+n<(PredP.toks l).length:=by have:=(List.getElem?_eq_some_iff.1 hb).1;omega
  obtain⟨c,hc⟩:∃c,(PredP.toks l)[i+n]?=some c:=⟨_,List.getElem?_eq_getElem hlt⟩
  have h1:=toks_up ha n hc
  obtain⟨h2,h3⟩:=PredP.toks_next hc
  cases hl:c.last with
  | true =>
   exfalso
   have:=PredP.toks_last hc hl
   have h4:=(List.getElem?_eq_some_iff.1 hb).1
   omega
  | false =>
   have h4:=h3 hl
   rw[show i+(n+1)=i+n+1 by omega,h4]at hb
   cases hb
   have h5:=h2.fits.2.2 (PredP.last_false hl)
   have h6:=PredP.tokFrom_ge l c.to
   omega
theorem toks_idx {l:Str} {i j:Nat} {a b:PredP.Tok} (ha:(PredP.toks l)[i]?=some a) (hb:(PredP.toks l)[j]?=some b) (h:a.pos<b.pos):i<j:=by
 rcases Nat.lt_or_ge i j with h' | h'
 ·exact h'
 ·have:=toks_up hb (i - j) (b:=a) (by rw[show j+(i - j)=i by omega];exact ha)
  omega
def NeedPost (r g cap:Nat) (s:ByteArray) (k:Nat) (t:PredP.Tok) (d what pos q:Nat) (w:World) (e:Ending) (w':World):Prop :=
 e=.returned (tokA s t)∧But r w w'∧∃k2 t2 what2 pos2,XRd r g cap s k2 t2 d what2 pos2 w'∧(what≠0→what2=what∧pos2=pos)∧(what=0→t.kind=q→what2=0∧pos2=pos∧k2=k+1∧t2=PredP.tokFrom (bs s) t.to)∧(what=0→t.kind≠q→what2=4∧pos2=t.pos)
theorem need_out (r g cap:Nat) (s:ByteArray) (k:Nat) (t:PredP.Tok) (d what pos:Nat) (w:World) (h:XRd r g cap s k t d what pos w) (hs:s.size≤400) (q:Nat) (hq:q∈kinds) (hq2:q≠0∧q≠1) :
  Calls Tryz.prog 32 #[.pointer (some ⟨r,0,none⟩),.string (kindB q)] w (NeedPost r g cap s k t d what pos q w):=by
 by_cases hw:what=0
 ·subst hw
  by_cases hk:t.kind=q
  ·have hl:t.last=false:=by simp[PredP.Tok.last,hk,hq2.1,hq2.2]
   have hb:(kindB t.kind).toList==(kindB q).toList:=by rw[hk];exact beq_self_eq_true _
   refine(need_yes r g cap s k t _ d pos w h (kindB q) hb ((PredP.toks_next h.tk).2 hl) hs).mono ?_
   rintro e w' ⟨rfl,hx,hbut⟩
   exact⟨rfl,hbut,_,_,_,_,hx,fun h=>absurd rfl h,fun _ _=>⟨rfl,rfl,rfl,rfl⟩,fun _ h=>absurd hk h⟩
  ·have hb:((kindB t.kind).toList==(kindB q).toList)=false:=by rw[kind_is h.tk q hq];simpa using hk
   refine(need_no r g cap s k t d pos w h (kindB q) hb).mono ?_
   rintro e w' ⟨rfl,hx,hbut⟩
   exact⟨rfl,hbut,_,_,_,_,hx,fun h=>absurd rfl h,fun _ h=>absurd h hk,fun _ _=>⟨rfl,rfl⟩⟩
 ·refine(need_more r g cap s k t d what pos hw w h (kindB q)).mono ?_
  rintro e w' ⟨rfl,hx,hbut⟩
  exact⟨rfl,hbut,_,_,_,_,hx,fun _=>⟨rfl,rfl⟩,fun h=>absurd h hw,fun h=>absurd h hw⟩
def ChPost (r g cap:Nat) (s:ByteArray) (d:Nat) (w:World) (o:PredP.Out PredP.Rows) (e:Ending) (w':World):Prop :=
 ∃i k2 t2 what2 pos2,e=.returned (.pointer (some ⟨i,0,none⟩))∧But r w w'∧w.heap.size≤i∧XRd r g cap s k2 t2 d what2 pos2 w' ∧
  Hid (match o with
   | .ok ex t'=>what2=0∧pos2=0∧t2=t'∧∃x,x.id=i∧PredP.xE ex x∧NewX w.heap.size w' x
   | .bad p b=>what2=codeOf b∧pos2=p)
theorem ChX.post {r g cap:Nat} {s:ByteArray} {d:Nat} {w:World} {o:PredP.Out PredP.Rows} {e:Ending} {w':World} (h:ChX r g cap s d w o e w'):ChPost r g cap s d w o e w':=by
 obtain⟨hb,i,he,hi,h⟩:=h
 cases o with
 | ok ex t' =>
  obtain⟨x,k,h1,h2,h3,h4⟩:=h
  exact⟨i,k,t',0,0,he,hb,hi,h4,rfl,rfl,rfl,x,h1,h2,h3⟩
 | bad p b =>
  obtain⟨k,t',h⟩:=h
  exact⟨i,k,t',_,_,he,hb,hi,h,rfl,rfl⟩
theorem NewX.but {n r:Nat} {w w':World} {x:PredP.X} (h:NewX n w x) (hb:But r w w') (hr:r<n):NewX n w' x :=
 ⟨xAt.carry hb.size (fun b h1 h2=>⟨h1,hb.block b h2 (by omega)⟩) (fun b h1 h2=>⟨⟨h1.1,h1.2.same (hb.block b h2 (by omega))⟩,hb.block b h2 (by omega)⟩) x none h.at',h.nd⟩
theorem NewX.low {n n':Nat} {w:World} {x:PredP.X} (h:NewX n w x) (hn:n'≤n):NewX n' w x :=
 ⟨xAt.carry (Nat.le_refl _) (fun _ h1 _=>⟨Nat.le_trans hn h1,rfl⟩) (fun _ h1 _=>⟨⟨Nat.le_trans hn h1.1,h1.2⟩,rfl⟩) x none h.at',h.nd⟩
theorem NewX.below {n:Nat} {w w':World} {x:PredP.X} (h:NewX n w x) (hb:Below w.heap.size w w'):NewX n w' x :=
 ⟨xAt.carry hb.size (fun b h1 h2=>⟨h1,hb.block b h2⟩) (fun b h1 h2=>⟨⟨h1.1,h1.2.same (hb.block b h2)⟩,hb.block b h2⟩) x none h.at',h.nd⟩
theorem NewX.wrap {n:Nat} {w:World} {x:PredP.X} {op:PredP.XOp} {p:Nat} (h:NewX n w x) (hn:n≤w.heap.size) :
  NewX n ((w.alloc (.cells #[.pointer (some ⟨x.id,0,none⟩)] 83)).alloc (expO op p [] (.slice (some ⟨w.heap.size,0,none⟩) 1 1) (.slice none 0 0) (.pointer none) 0 0)) (.mk (w.heap.size+1) op p [] [] (.cons x .nil)):=by
 have hB:Below w.heap.size w ((w.alloc (.cells #[.pointer (some ⟨x.id,0,none⟩)] 83)).alloc (expO op p [] (.slice (some ⟨w.heap.size,0,none⟩) 1 1) (.slice none 0 0) (.pointer none) 0 0)):=((Below.refl _ w).alloc (Nat.le_refl _) _).alloc (by simp) _
 have h0:((w.alloc (.cells #[.pointer (some ⟨x.id,0,none⟩)] 83)).alloc (expO op p [] (.slice (some ⟨w.heap.size,0,none⟩) 1 1) (.slice none 0 0) (.pointer none) 0 0)).heap[w.heap.size]?=some (.cells #[.pointer (some ⟨x.id,0,none⟩)] 83):=by
  rw[Below.heap_alloc _ _ _ (by simp),heap_alloc_new]
 have h1:((w.alloc (.cells #[.pointer (some ⟨x.id,0,none⟩)] 83)).alloc (expO op p [] (.slice (some ⟨w.heap.size,0,none⟩) 1 1) (.slice none 0 0) (.pointer none) 0 0)).heap[w.heap.size+1]?=some (expO op p [] (.slice (some ⟨w.heap.size,0,none⟩) 1 1) (.slice none 0 0) (.pointer none) 0 0):=by
  have:=heap_alloc_new (w.alloc (.cells #[.pointer (some ⟨x.id,0,none⟩)] 83)) (expO op p [] (.slice (some ⟨w.heap.size,0,none⟩) 1 1) (.slice none 0 0) (.pointer none) 0 0)
  rwa[World.size_alloc]at this
 have hx:=h.below hB
 refine⟨?_,?_⟩
 ·unfold xAt
  refine⟨by omega,by simp,_,_,_,0,0,h1,.inr ⟨w.heap.size,1,1,rfl,Nat.le_min.2 ⟨Nat.le_refl _,by unfold maxLen;omega⟩,⟨hn,?_⟩,by simp;omega,rfl,?_⟩,.inl ⟨rfl,rfl⟩,(fun y hy=>by cases hy),?_⟩
  ·intro cs f e
   rw[h0]at e
   injection e with e
   injection e with _ e _
   exact absurd e (by decide)
  ·intro j u hu
   cases j with
   | zero =>
    simp[ptrC,PredP.Xs.ids]at hu
    subst hu
    simp only[World.cell?,h0];rfl
   | succ j=>simp[ptrC,PredP.Xs.ids]at hu
  ·unfold xsAt
   exact⟨hx.at',by unfold xsAt;trivial⟩
 ·rw[PredP.X.all,PredP.Xs.all,PredP.Xs.all,List.append_nil,List.nodup_cons]
  refine⟨fun hm=>?_,h.nd⟩
  have:=(xAt.ids x none h.at' _ hm).2
  omega
theorem XRow.grow {N r g cap:Nat} {s:ByteArray} {d:Nat} {w:World} {o:PredP.Out PredP.Parts} {bx p0:Nat} {wr:World} {acc:PredP.Parts} {t:PredP.Tok} {k m:Nat} {l:PredP.Xs} {v:Value} (hR:XRow N r g cap s d w o bx p0 wr acc t k m l v)
  (hr:r<w.heap.size) (hg0:g<w.heap.size) {W w2 w3:World} {v':Value} {k':Nat} {t':PredP.Tok} {what pos:Nat} (hbut:But r wr W) (hrd:XRd r g cap s k' t' d what pos W)
  (hgrow:W.grownBy w2 v.ownBlock) (hw3:w3=w2.setCell ⟨bx,3,none⟩ v'):XRd r g cap s k' t' d what pos w3∧But r w w3:=by
 have hlt:=hR.own.lt
 have hsz:=hR.but.size
 have hge:=hR.ge
 have hbx:bx<wr.heap.size:=(Array.getElem?_eq_some_iff.1 hR.xb).1
 have hWs:=hbut.size
 have hgs:=hgrow.size
 have hset:But bx w2 w3:=by rw[hw3];exact(But.refl bx w2).setCell rfl _
 have hblk:∀b,b<W.heap.size→some b≠v.ownBlock→b≠bx→w3.heap[b]?=W.heap[b]?:=fun b hb h1 h2=>(hset.block b (Nat.lt_of_lt_of_le hb hgs) h2).trans (hgrow.block b hb h1)
 have hrow:∀b,b<w.heap.size→some b≠v.ownBlock:=fun b hb e=>by have:=(hlt b e.symm).1;omega
 refine⟨?_,?_⟩
 ·rw[hw3]
  exact(hrd.butOf hgrow (hrow r hr) (hrow g hg0)).other (p:=⟨bx,3,none⟩) (by simp;omega) (by simp;omega) _
 ·refine⟨hset.os.trans (hgrow.os.trans (hbut.os.trans hR.but.os)),hset.tape.trans (hgrow.tape.trans (hbut.tape.trans hR.but.tape)),hset.output.trans (hgrow.output.trans (hbut.output.trans hR.but.output)),by have:=hset.size;omega,fun b hb hne=>?_⟩
  rw[hblk b (by omega) (hrow b hb) (by omega),hbut.block b (by omega) hne]
  exact hR.but.block b hb hne
theorem xbr_some {k:Nat} {q:PredP.Br} (h:PredP.brOf k=some q):(k=91∧q=.opt)∨(k=123∧q=.loop)∨(k=40∧q=.grp):=by
 unfold PredP.brOf at h
 split at h
 ·rename_i e;cases h;exact .inr (.inr ⟨e,rfl⟩)
 ·split at h
  ·rename_i e;cases h;exact .inl ⟨e,rfl⟩
  ·split at h
   ·rename_i e;cases h;exact .inr (.inl ⟨e,rfl⟩)
   ·cases h
theorem xbr_out {l:Str} {m d:Nat} {t t2 t3:PredP.Tok} {q:PredP.Br} {k2 k3 what2 pos2 what3 pos3:Nat} {P:PredP.Rows→Prop} (hd:d≠10)
  (he:match PredP.expF l m (d+1) 0 (PredP.tokFrom l t.to) with | .ok ex t'=>what2=0∧pos2=0∧t2=t'∧P ex | .bad p b=>what2=codeOf b∧pos2=p)
  (hn1:what2≠0→what3=what2∧pos3=pos2) (hn2:what2=0→t2.kind=PredP.closing q→what3=0∧pos3=pos2∧k3=k2+1∧t3=PredP.tokFrom l t2.to) (hn3:what2=0→t2.kind≠PredP.closing q→what3=4∧pos3=t2.pos) :
  (∃p b,PredP.brF l m d t q=.bad p b∧what3=codeOf b∧pos3=p)∨(∃ex,PredP.brF l m d t q=.ok (.br q t.pos ex) t3∧what3=0∧pos3=0∧P ex):=by
 unfold PredP.brF
 rw[if_neg hd]
 cases hx:PredP.expF l m (d+1) 0 (PredP.tokFrom l t.to) with
 | bad p b =>
  rw[hx]at he
  obtain⟨e1,e2⟩:=he
  have h0:what2≠0:=by rw[e1];unfold codeOf;split<;>omega
  obtain⟨f1,f2⟩:=hn1 h0
  exact .inl ⟨p,b,rfl,f1.trans e1,f2.trans e2⟩
 | ok ex t' =>
  rw[hx]at he
  obtain⟨e1,e2,rfl,e4⟩:=he
  by_cases hc:t2.kind=PredP.closing q
  ·obtain⟨f1,f2,_,f4⟩:=hn2 e1 hc
   exact .inr ⟨ex,by simp only[hc,if_true];rw[f4],f1,f2.trans e2,e4⟩
  ·obtain⟨f1,f2⟩:=hn3 e1 hc
   exact .inl ⟨t2.pos,false,by simp only[hc,if_false],f1,f2⟩
theorem one_new3 (w:World) (o o':Obj) (x:Value) (ty:Nat):∀j u,[x][j]?=some u→(((w.alloc o).alloc o').alloc (.cells #[x] ty)).cell? ((⟨w.heap.size+1+1,0,none⟩:Addr).add j)=some u:=by
 have:=cell_one_new ((w.alloc o).alloc o') x ty
 rwa[World.size_alloc,World.size_alloc]at this
theorem grow_store {W w2:World} {bx:Nat} {p:Int} {L:Value} {row:Option Nat} (h:W.heap[bx]?=some (expO .row p [] L (.slice none 0 0) (.pointer none) 0 0)) (hv:row≠some bx) (hg:W.grownBy w2 row) :
  w2.cell? ⟨bx,3,none⟩=some L∧w2.frozen? ⟨bx,3,none⟩=false:=by
 have e:w2.heap[bx]?=some (expO .row p [] L (.slice none 0 0) (.pointer none) 0 0):=(hg.block bx (Array.getElem?_eq_some_iff.1 h).1 (fun e=>hv e.symm)).trans h
 constructor
 ·simp only[World.cell?,e];rfl
 ·simp only[World.frozen?,e];rfl
theorem xbr_step {N r g cap:Nat} {s:ByteArray} {d:Nat} {w:World} {o:PredP.Out PredP.Parts} {bx p0:Nat} {wr:World} {acc:PredP.Parts} {t:PredP.Tok} {k m:Nat} {l:PredP.Xs} {v:Value} (hR:XRow N r g cap s d w o bx p0 wr acc t k (m+1) l v) (hs:s.size≤400)
  (hr:r<w.heap.size) (hg0:g<w.heap.size) {W w2 w3:World} {x:PredP.X} {q:PredP.Br} {ex:PredP.Rows} {t3:PredP.Tok} {k3:Nat} {v':Value} (hbut:But r wr W) (hrd:XRd r g cap s k3 t3 d 0 0 W) (hx:NewX wr.heap.size W x) (hxp:PredP.xP (.br q t.pos ex) x)
  (hbr:PredP.brOf t.kind=some q) (hok:PredP.brF (bs s) m d t q=.ok (.br q t.pos ex) t3)
  (hown:w2.ownsRow w.heap.size 83 1 v' (l.ids.length+1) (ptrC l.ids++[.pointer (some ⟨x.id,0,none⟩)]))
  (hgrow:W.grownBy w2 v.ownBlock) (hloc:v'.ownBlock=v.ownBlock∨v'.ownBlock=some W.heap.size)
  (hw3:w3=w2.setCell ⟨bx,3,none⟩ v'):(∃acc t k m l v,XRow N r g cap s d w o bx p0 w3 acc t k m l v)∧xmu r w3<xmu r wr:=by
 obtain⟨a1,a2,a3,a4,a5,a6,a7⟩:=hR.push hr hg0 hbut hrd hx.at' hx.nd hxp hgrow hown hloc hw3
 have hfit:=(PredP.toks_next hR.rd.tk).1.fits
 have hon:=PredP.brF_on hfit hbr hok
 have hlt:k<k3:=toks_idx hR.rd.tk hrd.tk hon.2
 have hen:PredP.Enough (bs s) t3 m:=by
  have h1:=hR.enough
  have h2:=hon.1.2.1
  have h3:=hon.1.1
  have h4:=hon.2
  unfold PredP.Enough at *
  omega
 refine⟨⟨_,t3,k3,m,_,v',?_,hen,a1,a2,hR.ge,a3,a4,a5,a6,a7,?_,Nat.le_of_succ_le hR.le⟩,?_⟩
 ·rw[hR.out,PredP.rowF_ok hbr hok,PredP.preP_preP]
 ·have:=hR.short
  rw[PredP.Xs.ids_snoc];simp;omega
 ·rw[a1.mu,hR.rd.mu]
  have h1:=hrd.tok.2.2.2
  have h2:=PredP.toks_length (bs s)
  rw[PredP.bs_length]at h2
  simp
  omega
theorem xbad_step {N r g cap:Nat} {s:ByteArray} {d:Nat} {w:World} {o:PredP.Out PredP.Parts} {bx p0:Nat} {wr:World} {acc:PredP.Parts} {t:PredP.Tok} {k m:Nat} {l:PredP.Xs} {v:Value} (hR:XRow N r g cap s d w o bx p0 wr acc t k (m+1) l v) (hs:s.size≤400) {q:PredP.Br} {p:Nat} {b:Bool} {k3:Nat} {t3:PredP.Tok} {w3:World}
  (hbr:PredP.brOf t.kind=some q) (hbad:PredP.brF (bs s) m d t q=.bad p b) (hrd:XRd r g cap s k3 t3 d (codeOf b) p w3) (hbut:But r w w3):(∃p b k t,o=.bad p b∧XRd r g cap s k t d (codeOf b) p w3∧But r w w3∧w.heap.size≤bx)∧xmu r w3<xmu r wr:=by
 refine⟨⟨p,b,k3,t3,by rw[hR.out,PredP.rowF_bad hbr hbad];rfl,hrd,hbut,hR.ge⟩,?_⟩
 rw[hrd.mu,hR.rd.mu]
 have h1:=hR.rd.tok.2.2.2
 have h2:=PredP.toks_length (bs s)
 rw[PredP.bs_length]at h2
 have:codeOf b≠0:=by unfold codeOf;split<;>omega
 simp[this]
 omega
end Go.Proofs.YtpcmemcanpgadaaGreatDoor
