import Derived.RangeFuncNested
import Derived.RangeFuncBound
import Derived.RangeFuncCalls
import Derived.RangeFuncLeaves
import Derived.OrdersIn
import Derived.TacticsIn
import Derived.ControlIn
import Derived.StillTailTactics
namespace Go
section
open Go.RowKit
structure KeepsAbove (S:Nat) (A B:World):Prop where
 size:A.heap.size≤B.heap.size
 same:∀k,S≤k→k<A.heap.size→B.heap[k]?=A.heap[k]?
theorem KeepsAbove.refl (S:Nat) (A:World):KeepsAbove S A A:=⟨Nat.le_refl _,fun _ _ _=>rfl⟩
theorem KeepsAbove.trans {S:Nat} {A B C:World} (h:KeepsAbove S A B) (k:KeepsAbove S B C):KeepsAbove S A C :=
 ⟨Nat.le_trans h.size k.size,fun i hi hA=>(k.same i hi (Nat.lt_of_lt_of_le hA h.size)).trans (h.same i hi hA)⟩
theorem KeepsAbove.mono {S S':Nat} {A B:World} (h:KeepsAbove S A B) (hS:S≤S'):KeepsAbove S' A B:=⟨h.size,fun k hk hA=>h.same k (Nat.le_trans hS hk) hA⟩
theorem KeepsAbove.of_below {S:Nat} {A B:World} (h:Below A.heap.size A B):KeepsAbove S A B:=⟨h.size,fun k _ hk=>h.block k hk⟩
theorem KeepsAbove.put {S l:Nat} {A:World} {o o':Obj} (_h:A.heap[l]?=some o) (hl:l<S):KeepsAbove S A (A.putObj l o') :=
 ⟨by simp[World.putObj],fun k hk _=>World.putObj_heap_other (by omega)⟩
def plainObj:Obj→Bool
 | .loop _=>false
 | .deferred _=>false
 | _=>true
structure Quiet (S:Nat) (A B:World):Prop where
 os:B.os=A.os
 tape:B.tape=A.tape
 output:B.output=A.output
 size:A.heap.size≤B.heap.size
 low:∀k,k<S→k<A.heap.size→B.heap[k]?=A.heap[k]?
 same:∀(k:Nat) (o:Obj),A.heap[k]?=some o→plainObj o=true→B.heap[k]?=some o
theorem Quiet.refl (S:Nat) (A:World):Quiet S A A:=⟨rfl,rfl,rfl,Nat.le_refl _,fun _ _ _=>rfl,fun _ _ h _=>h⟩
theorem Quiet.trans {S:Nat} {A B C:World} (h:Quiet S A B) (k:Quiet S B C):Quiet S A C :=
 ⟨k.os.trans h.os,k.tape.trans h.tape,k.output.trans h.output,Nat.le_trans h.size k.size,fun i hi hA=>(k.low i hi (Nat.lt_of_lt_of_le hA h.size)).trans (h.low i hi hA),fun i o hA hp=>k.same i o (h.same i o hA hp) hp⟩
theorem Quiet.mono {S S':Nat} {A B:World} (h:Quiet S' A B) (hS:S≤S'):Quiet S A B:=⟨h.os,h.tape,h.output,h.size,fun k hk=>h.low k (Nat.lt_of_lt_of_le hk hS),h.same⟩
theorem Quiet.of_below {S:Nat} {A B:World} (h:Below A.heap.size A B):Quiet S A B :=
 ⟨h.os,h.tape,h.output,h.size,fun k _ hA=>h.block k hA,fun k _ hA _=>(h.block k (Array.getElem?_eq_some_iff.1 hA).1).trans hA⟩
theorem Quiet.put {S l:Nat} {A:World} {o:Obj} (hl:S≤l) (h:A.heap[l]?=some o) (ho:plainObj o=false) (o':Obj):Quiet S A (A.putObj l o') :=
 ⟨rfl,rfl,rfl,by simp[World.putObj],fun k hk _=>World.putObj_heap_other (by omega),fun k o1 h1 hp=>by
  refine(World.putObj_heap_other ?_).trans h1
  intro e;subst e
  rw[h]at h1;cases h1
  rw[ho]at hp;cases hp⟩
theorem Quiet.cell {S:Nat} {A B:World} (h:Quiet S A B) {p:Addr} {v:Value} (hv:A.cell? p=some v):B.cell? p=some v:=by
 unfold World.cell? at *
 cases hb:A.heap[p.block]? with
 | none=>rw[hb]at hv;cases hv
 | some o =>
  cases o with
  | cells c t f=>rw[h.same _ _ hb rfl];rw[hb]at hv;exact hv
  | _=>rw[hb]at hv;cases hv
theorem Quiet.below {S N:Nat} {w A B:World} (h:Quiet S A B) (hb:Below N w A) (hN:N≤S) (hA:N≤A.heap.size):Below N w B :=
 ⟨h.os.trans hb.os,h.tape.trans hb.tape,h.output.trans hb.output,Nat.le_trans hb.size h.size,fun k hk=>(h.low k (Nat.lt_of_lt_of_le hk hN) (Nat.lt_of_lt_of_le hk hA)).trans (hb.block k hk)⟩
def Steady (S:Nat) (J:World→Prop):Prop:=∀A B,J A→Quiet S A B→J B
theorem Steady.mono {S S':Nat} {J:World→Prop} (h:Steady S J) (hS:S≤S'):Steady S' J:=fun A B hA hb=>h A B hA (hb.mono hS)
def IterOf {α:Type} (P:Program) (g:Nat) (lb:Array Value) (encs:α→Array Value) (xs:List α) (ok:World→Prop):Prop :=
 ∀(n l:Nat) (J Jx:List α→World→Prop) (W:World),l<W.heap.size→(∀pre W1,J pre W1→ok W1)→(∀pre,Steady W.heap.size (J pre))→(∀pre,Steady W.heap.size (Jx pre)) →
  (∀pre x W1,J pre W1→(∃post,xs=pre++x::post)→∀m,YieldAt Fence.wide m P l (encs x) W1 fun e W' =>
   KeepsAbove W.heap.size W1 W'∧((e=.returned (.bool true)∧J (pre++[x]) W')∨(e=.returned (.bool false)∧Jx (pre++[x]) W'))) →
  J [] W →
  CallsIn Fence.wide n P g (#[.func (.yield l) #[] #[]]++lb) W fun e W'=>(∃v,e=.returned v)∧(J xs W'∨∃pre,Jx pre W')
def roundLeft {α:Type} (B:Nat) (I:List α→World→Prop) (Ix:Code→List α→World→Prop) (xs:List α) (W:World):Exit→Act→World→Prop
 | .normal,_,W'=>KeepsAbove B W W'∧I xs W'
 | .ret,_,W'=>KeepsAbove B W W'∧Ix .ret xs W'
 | .exit id,_,W'=>KeepsAbove B W W'∧Ix (.exit id) xs W'
 | .goto t,_,W'=>KeepsAbove B W W'∧Ix (.goto t) xs W'
 | .panic _,_,_=>False
 | .outgrown,_,_=>False
theorem range_law {α:Type} {P:Program} {n:Nat} {g:Operand} {ps:Array Tmp} {assign body:Code} {Q:Exit→Act→World→Prop} {a:Act} {w:World}
  {gf:Nat} {lb:Array Value} (hg:a.eval g=.func (.func gf) #[] lb) (eg:∀args w,(callFunc gf args).run P w=.ok (.enter gf args) w)
  {encs:α→Array Value} {xs:List α} {ok:World→Prop} (hit:IterOf P gf lb encs xs ok) (hps:∀x,(encs x).size=ps.size)
  (I:List α→World→Prop) (Ix:Code→List α→World→Prop) (hok:∀pre W,I pre W→ok W) (hI:∀pre,Steady w.heap.size (I pre)) (hIx:∀c pre,Steady w.heap.size (Ix c pre)) (h0:I [] w) (a₁:α→Act)
  (hassign:∀(l m:Nat) (x:α) (W:World) (K:Act→World→Prop),K (a₁ x) W →
   assign.wpIn (Fence.wide.inRound l) m P (Exit.then K (fun _ _ _=>False)) { tmps:=(ps.zip (encs x)).foldl (fun t (p,v)=>t.setIfInBounds p v) a.tmps,defers:=[] } W)
  (hbody:∀(l m:Nat) (pre:List α) (x:α) (W:World),I pre W→(∃post,xs=pre++x::post)→body.wpIn (Fence.wide.inRound l) m P (roundLeft w.heap.size I Ix (pre++[x]) W) (a₁ x) W)
  (hdone:∀(D:Nat) (W:World),w.heap.size≤D→I xs W→W.heap[D]?=some (.deferred (some []))→Q .normal { a with defers:={ target:=.collected D,args:=#[] }::a.defers } W)
  (hstop:∀(D:Nat) (c:Code) (pre:List α) (W:World),w.heap.size≤D→Ix c pre W→W.heap[D]?=some (.deferred (some []))→c.wpIn Fence.wide n P Q { a with defers:={ target:=.collected D,args:=#[] }::a.defers } W) :
  (Code.rangeFunc g ps assign body).wpIn Fence.wide n P Q a w:=by
 refine wpIn_rangeFunc ?_
 intro fn hfn
 rw[show Fence.wide.round=none from rfl]
 let rec0:LoopState→Option Code→Loop:=fun st pe=>{ state:=st,pending:=pe,fn,tmps:=a.tmps,params:=ps,assign,body,defers:=w.heap.size }
 have hW1:=run_enterLoop_outer (P:=P) (w:=w) fn a.tmps ps assign body
 generalize hw1:(w.alloc (.deferred (some []))).alloc (.loop { state:=.ready,pending:=none,fn,tmps:=a.tmps,params:=ps,assign,body,defers:=w.heap.size })=W1 at hW1
 have hsz:W1.heap.size=w.heap.size+2:=by rw[←hw1];simp
 have hL1:W1.heap[w.heap.size+1]?=some (.loop (rec0 .ready none)):=by
  rw[←hw1]
  have:=World.alloc_heap_new (w.alloc (.deferred (some []))) (.loop (rec0 .ready none))
  rwa[World.size_alloc]at this
 have hD1:W1.heap[w.heap.size]?=some (.deferred (some [])):=by
  rw[←hw1];exact(Below.heap_alloc _ _ _ (by simp)).trans (World.alloc_heap_new w _)
 have hB1:Below w.heap.size w W1:=by
  rw[←hw1];exact((Below.refl _ w).alloc (Nat.le_refl _) _).alloc (by simp) _
 refine⟨w.heap.size+1,[{ target:=.collected w.heap.size,args:=#[] }],W1,{ target:=.fn (.func gf) lb,args:=#[.func (.yield (w.heap.size+1)) #[] #[]] },W1,gf,
  #[.func (.yield (w.heap.size+1)) #[] #[]]++lb,W1,hW1,?_,fun _ _=>trivial,?_,fun h=>by simp[Fence.wide]at h,?_⟩
 ·simp only[resolve,hg]
  simp[go_sem]
 ·simp[invoke,go_sem,eg]
 ·let Jd:List α→World→Prop:=fun pre W=>I pre W∧W.heap[w.heap.size+1]?=some (.loop (rec0 .ready none))∧W.heap[w.heap.size]?=some (.deferred (some []))
  let Jx:List α→World→Prop:=fun pre W=>∃c,Ix c pre W∧W.heap[w.heap.size+1]?=some (.loop (rec0 .done (some c)))∧W.heap[w.heap.size]?=some (.deferred (some []))
  have key:=hit (n - 1) (w.heap.size+1) Jd Jx W1 (by omega) (fun pre W h=>hok pre W h.1)
   (fun pre A B h hb=>⟨hI pre A B h.1 (hb.mono (by omega)),(hb.low _ (by omega) (Array.getElem?_eq_some_iff.1 h.2.1).1).trans h.2.1,(hb.low _ (by omega) (Array.getElem?_eq_some_iff.1 h.2.2).1).trans h.2.2⟩)
   (fun pre A B h hb=>by
    obtain⟨c,h1,h2,h3⟩:=h
    exact⟨c,hIx c pre A B h1 (hb.mono (by omega)),(hb.low _ (by omega) (Array.getElem?_eq_some_iff.1 h2).1).trans h2,(hb.low _ (by omega) (Array.getElem?_eq_some_iff.1 h3).1).trans h3⟩)
   ?_ ⟨hI [] w W1 h0 (.of_below hB1),hL1,hD1⟩
  ·refine key.mono ?_
   rintro e W2 ⟨⟨v,rfl⟩,(⟨hi,hl,hk⟩ | ⟨pre,c,hi,hl,hk⟩)⟩
   ·exact⟨none,_,run_endLoop (P:=P) hl (by simp[rec0]),hdone _ _ (Nat.le_refl _) (hI _ _ _ hi (.put (by omega) hl rfl _)) ((World.putObj_heap_other (by omega)).trans hk)⟩
   ·exact⟨some c,_,run_endLoop (P:=P) hl (by simp[rec0]),hstop _ c pre _ (Nat.le_refl _) (hIx c pre _ _ hi (.put (by omega) hl rfl _)) ((World.putObj_heap_other (by omega)).trans hk)⟩
  ·
   rintro pre x W ⟨hi,hl,hk⟩ hx m
   have hlt:w.heap.size+1<W.heap.size:=(Array.getElem?_eq_some_iff.1 hl).1
   refine⟨fn,_,assign,body,run_yield (P:=P) (args:=encs x) hl (hps x),roundIn_of_wpIn hfn (hassign _ m x W _ ⟨_,run_beginRound hl rfl,?_⟩)⟩
   have hl2:(W.putObj (w.heap.size+1) (.loop (rec0 .busy none))).heap[w.heap.size+1]?=some (.loop (rec0 .busy none)):=World.putObj_heap_same hlt
   have hk2:(W.putObj (w.heap.size+1) (.loop (rec0 .busy none))).heap[w.heap.size]?=some (.deferred (some [])):=(World.putObj_heap_other (by omega)).trans hk
   refine wpIn_mono (hbody _ m pre x _ (hI pre _ _ hi (.put (by omega) hl rfl _)) hx) ?_
   have fin:∀(jump:Option Code) (W3:World),KeepsAbove w.heap.size (W.putObj (w.heap.size+1) (.loop (rec0 .busy none))) W3 →
     W3.heap[w.heap.size+1]?=some (.loop (rec0 .busy none))∧W3.heap[w.heap.size]?=some (.deferred (some [])) ∧
     KeepsAbove W1.heap.size W (W3.putObj (w.heap.size+1) (.loop (rec0 (if jump.isNone then .ready else .done) jump))):=fun jump W3 hk3=>by
    have hz:(W.putObj (w.heap.size+1) (.loop (rec0 .busy none))).heap.size=W.heap.size:=by simp[World.putObj]
    have hl3:=(hk3.same (w.heap.size+1) (by omega) (by omega)).trans hl2
    have hd3:=(hk3.same w.heap.size (by omega) (by omega)).trans hk2
    exact⟨hl3,hd3,((KeepsAbove.put hl (by omega)).trans (hk3.mono (by omega))).trans (KeepsAbove.put hl3 (by omega))⟩
   rintro e a3 W3 hp
   cases e with
   | normal =>
    obtain⟨h3,hi3⟩:=hp
    obtain⟨hl3,hd3,hk4⟩:=fin none W3 h3
    exact⟨_,_,run_endRound (P:=P) none hl3,hk4,.inl ⟨rfl,hI _ _ _ hi3 (.put (by omega) hl3 rfl _),World.putObj_heap_same (Array.getElem?_eq_some_iff.1 hl3).1,(World.putObj_heap_other (by omega)).trans hd3⟩⟩
   | ret =>
    obtain⟨h3,hi3⟩:=hp
    obtain⟨hl3,hd3,hk4⟩:=fin (some .ret) W3 h3
    exact⟨_,_,run_endRound (P:=P) (some .ret) hl3,hk4,.inr ⟨rfl,.ret,hIx _ _ _ _ hi3 (.put (by omega) hl3 rfl _),World.putObj_heap_same (Array.getElem?_eq_some_iff.1 hl3).1,(World.putObj_heap_other (by omega)).trans hd3⟩⟩
   | exit id =>
    obtain⟨h3,hi3⟩:=hp
    obtain⟨hl3,hd3,hk4⟩:=fin (some (.exit id)) W3 h3
    exact⟨_,_,run_endRound (P:=P) (some (.exit id)) hl3,hk4,.inr ⟨rfl,.exit id,hIx _ _ _ _ hi3 (.put (by omega) hl3 rfl _),World.putObj_heap_same (Array.getElem?_eq_some_iff.1 hl3).1,(World.putObj_heap_other (by omega)).trans hd3⟩⟩
   | goto t =>
    obtain⟨h3,hi3⟩:=hp
    obtain⟨hl3,hd3,hk4⟩:=fin (some (.goto t)) W3 h3
    exact⟨_,_,run_endRound (P:=P) (some (.goto t)) hl3,hk4,.inr ⟨rfl,.goto t,hIx _ _ _ _ hi3 (.put (by omega) hl3 rfl _),World.putObj_heap_same (Array.getElem?_eq_some_iff.1 hl3).1,(World.putObj_heap_other (by omega)).trans hd3⟩⟩
   | panic ch=>exact hp.elim
   | outgrown=>exact hp.elim
end
section
open Go.RowKit
def noDefer (ops:Array Oper):Bool:=ops.toList.all fun o=>match o.op with | .defer _=>false | _=>true
theorem noDefer_spec {ops:Array Oper} (h:noDefer ops=true) {i:Nat} {o:Oper} (ho:ops[i]?=some o) (c:Call):o.op≠.defer c:=by
 intro e
 have hm:o∈ops.toList:=List.mem_of_getElem? (by simpa using ho)
 have:=List.all_eq_true.1 h o hm
 rw[e]at this
 cases this
theorem wpOpIn_of_wpOp {l n:Nat} {P:Program} {ops:Array Oper} {Q:Exit→Act→World→Prop} (hd:noDefer ops=true) (hq:¬LetsOut Q) {i:Nat} {K K':Act→World→Prop} {a:Act} {w:World} (hK:∀a w,K a w→K' a w)
  (h:wpOp P ops Q i K a w):wpOpIn (Fence.wide.inRound l) n P ops Q i K' a w:=by
 unfold wpOp at h
 unfold wpOpIn
 cases ho:ops[i]? with
 | none=>rw[ho]at h;exact hK _ _ h
 | some o =>
  rw[ho]at h
  simp only[]at h ⊢
  split
  ·rename_i hw
   rw[if_pos hw]at h
   replace h:=h.resolve_right fun x=>hq x.2
   refine⟨fun _ _=>trivial,?_⟩
   unfold Oper.wp at h
   rw[Fence.inRound_round,Oper.semAt_some l _ _ (noDefer_spec hd ho)]
   generalize (execOp a.eval o).run P w=r at h
   cases r with
   | ok x w' =>
    cases x<;>simp only[Oper.upon,Oper.uponIn]at h ⊢ <;>
     first
      | exact hK _ _ h
      | exact⟨fun h=>by simp[Fence.wide]at h,callsIn_wide.2 (Calls.mono h fun e w'' he=>by cases e<;>first | exact hK _ _ he | exact he)⟩
      | exact⟨fun h=>by simp[Fence.wide]at h,fun c cs _=>let ⟨v,w1,r,s⟩:=h c cs;⟨v,w1,hK _ _ r,stepsIn_wide.2 s⟩⟩
   | halt x w'=>cases x<;>simp only[Oper.upon,Oper.uponIn]at h ⊢<;>exact h
  ·rename_i hw
   rw[if_neg hw]at h
   exact⟨fun _ _=>trivial,hK _ _ h⟩
theorem wpAnyIn_of_wpAny {l n:Nat} {P:Program} {md:Region.Mode} {ops:Array Oper} {Q:Exit→Act→World→Prop} (hd:noDefer ops=true) (hq:¬LetsOut Q) :
  ∀(fuel:Nat) (listed:Array Bool) (a:Act) (w:World),wpAny P md ops Q fuel listed a w→wpAnyIn (Fence.wide.inRound l) n P md ops Q fuel listed a w
 | 0,_,_,_,h=>h
 | fuel+1,_,_,_,h=>⟨h.1,fun i hi=>wpOpIn_of_wpOp hd hq (fun a' w' h'=>wpAnyIn_of_wpAny hd hq fuel _ a' w' h') (h.2 i hi)⟩
theorem round_still_tail {l m:Nat} {P:Program} {id:Nat} {Q:Exit→Act→World→Prop} {a:Act} {w:World} {ops:List Oper} (n:Nat) (hm:P.follows .mixedOrders=true) (hd:noDefer ops.toArray=true) (hq:¬LetsOut Q)
  (hB:Region.lexTailB .any ops.toArray n=true)
  (h:wpStill P ops.toArray { w with drawn:=w.drawn+1 } (fun a'=>wpList P ops.toArray Q (ops.drop n) a' { w with drawn:=w.drawn+1 }) (ops.take n) a) :
  (Code.region id ops.toArray true).wpIn (Fence.wide.inRound l) m P Q a w:=by
 simp only[Region.lexTailB,Bool.and_eq_true,decide_eq_true_eq]at hB
 obtain⟨⟨⟨⟨hsel,hn⟩,hs⟩,hc⟩,hlex⟩:=hB
 have hlt:n<ops.length:=by simpa using hn
 have h1:(ops.take n).length=n:=by simp;omega
 have h2:(ops.drop n).length=ops.toArray.size - n:=by simp
 have head:=wpAnyL_lex (md:=.any) (g:=ops.toArray.size - n) hsel hs hc hn (ops.take n) 0 (Array.replicate ops.toArray.size false) a
  (fun j hj=>by
   have:j<n:=by omega
   simp[this]) (by omega)
  ⟨by simp,fun j oj _ hl=>absurd (hl.symm.trans (getD_replicate_false _ j)) (by simp),fun t _ ht=>getD_in (by simpa using ht) (getD_replicate_false _ _)⟩ (by rw[h1];exact hlex) h
 have all:=wpAny_of_head (Q':=Q) (g:=ops.toArray.size - n) (fun listed a' hL=>h2▸wpAny_of_seq (md:=.any) (Q':=Q) (ops.drop n) n listed a' _ (fun j=>by simp[List.getElem?_drop]) (by rw[h2];exact hL.1) hL.2) _ _ _ head
 refine wpIn_region_any hm (wpAnyIn_of_wpAny hd hq _ _ _ _ ?_)
 rw[h1,Nat.add_sub_cancel' (Nat.le_of_lt hn)]at all
 exact all
def markOf (D:Nat):Deferred:={ target:=.collected D,args:=#[] }
def marks (Ds:List Nat):List Deferred:=Ds.map markOf
def MarksAt (S:Nat) (Ds:List Nat) (W:World):Prop:=Ds.Nodup∧∀D∈Ds,S≤D∧W.heap[D]?=some (.deferred (some []))
theorem leaves_marks {F:Fence} {n:Nat} {P:Program} {fn:Func} {tmps:Array Value} {R:Ending→World→Prop} {S:Nat}:∀(Ds:List Nat) (W:World),MarksAt S Ds W →
  (∀W',Quiet S W W'→∃v,(results fn tmps).run P W'=.ok v W'∧R (.returned v) W')→LeavesInM F n P fn tmps R (marks Ds) .returning W
 | [],W,_,h=>h W (.refl _ _)
 | D::Ds,W,⟨hn,hD⟩,h=>by
  obtain⟨h1,h2⟩:=hD D List.mem_cons_self
  rw[List.nodup_cons]at hn
  refine⟨by simp,.inl ⟨D,_,rfl,run_takeDeferred h2,leaves_marks Ds _ ⟨hn.2,fun E hE=>?_⟩ fun W' q=>h W' ((Quiet.put h1 h2 rfl _).trans q)⟩⟩
  obtain⟨e1,e2⟩:=hD E (List.mem_cons_of_mem _ hE)
  have hne:D≠E:=fun e=>hn.1 (by rw[e];exact hE)
  exact⟨e1,(World.putObj_heap_other (by omega)).trans e2⟩
theorem MarksAt.quiet {S S':Nat} {Ds:List Nat} {A B:World} (h:MarksAt S Ds A) (hq:Quiet S' A B) (hl:∀D∈Ds,D<S'):MarksAt S Ds B :=
 ⟨h.1,fun D hD=>⟨(h.2 D hD).1,(hq.low D (hl D hD) (Array.getElem?_eq_some_iff.1 (h.2 D hD).2).1).trans (h.2 D hD).2⟩⟩
theorem MarksAt.lt {S:Nat} {Ds:List Nat} {A:World} (h:MarksAt S Ds A) (D:Nat) (hD:D∈Ds):D<A.heap.size:=(Array.getElem?_eq_some_iff.1 (h.2 D hD).2).1
def upd (t:Array Value) (slots:List Nat) (vs:List Value):Array Value:=(slots.zip vs).foldl (fun t p=>t.setIfInBounds p.1 p.2) t
theorem updN (t:List Value) (vs:List Value):upd t.toArray [] vs=t.toArray:=rfl
theorem updC (t:List Value) (i:Nat) (v:Value) (is:List Nat) (vs:List Value):upd t.toArray (i::is) (v::vs)=upd (t.set i v).toArray is vs:=by simp[upd]
theorem wpIn_loop_marks {F:Fence} {n:Nat} {P:Program} {Q:Exit→Act→World→Prop} {c:Code} {t:Array Value} {w:World} (slots:List Nat) (Ds0:List Nat) (I:List Value→List Nat→World→Prop) (μ:Act→World→Nat)
  (vs0:List Value) (h0:I vs0 Ds0 w) (ht:upd t slots vs0=t)
  (round:∀vs Ds w,I vs Ds w→c.wpIn F n P (Exit.then (fun a' w'=>∃vs' Ds',a'={ tmps:=upd t slots vs',defers:=marks Ds' }∧I vs' Ds' w'∧μ a' w'<μ { tmps:=upd t slots vs,defers:=marks Ds } w) Q) { tmps:=upd t slots vs,defers:=marks Ds } w) :
  (Code.loop c).wpIn F n P Q { tmps:=t,defers:=marks Ds0 } w :=
 wpIn_loop (fun a w=>∃vs Ds,a={ tmps:=upd t slots vs,defers:=marks Ds }∧I vs Ds w) μ ⟨vs0,Ds0,by rw[ht],h0⟩ (by
  rintro a w ⟨vs,Ds,rfl,hI⟩
  refine wpIn_mono (round vs Ds w hI) ?_
  rintro e a' w' h
  cases e with
  | normal=>obtain⟨vs',Ds',e1,e2,e3⟩:=h;exact⟨⟨vs',Ds',e1,e2⟩,e3⟩
  | _=>exact h)
theorem range_slots {α:Type} {P:Program} {n:Nat} {g:Operand} {ps:Array Tmp} {assign body:Code} {Q:Exit→Act→World→Prop} {a:Act} {w:World}
  {gf:Nat} {lb:Array Value} (hg:a.eval g=.func (.func gf) #[] lb) (eg:∀args w,(callFunc gf args).run P w=.ok (.enter gf args) w)
  {encs:α→Array Value} {xs:List α} {ok:World→Prop} (hit:IterOf P gf lb encs xs ok) (hps:∀x,(encs x).size=ps.size)
  (I:List α→World→Prop) (Ix:Code→List α→World→Prop) (hok:∀pre W,I pre W→ok W) (hI:∀pre,Steady w.heap.size (I pre)) (hIx:∀c pre,Steady w.heap.size (Ix c pre)) (h0:I [] w) (slots:List Nat) (vals:α→List Value)
  (hassign:∀(l m:Nat) (x:α) (W:World) (K:Act→World→Prop),K { tmps:=upd a.tmps slots (vals x),defers:=[] } W →
   assign.wpIn (Fence.wide.inRound l) m P (Exit.then K (fun _ _ _=>False)) { tmps:=(ps.zip (encs x)).foldl (fun t (p,v)=>t.setIfInBounds p v) a.tmps,defers:=[] } W)
  (hbody:∀(l m:Nat) (pre:List α) (x:α) (W:World),I pre W→(∃post,xs=pre++x::post)→body.wpIn (Fence.wide.inRound l) m P (roundLeft w.heap.size I Ix (pre++[x]) W) { tmps:=upd a.tmps slots (vals x),defers:=[] } W)
  (hdone:∀(D:Nat) (W:World),w.heap.size≤D→I xs W→W.heap[D]?=some (.deferred (some []))→Q .normal { tmps:=a.tmps,defers:=markOf D::a.defers } W)
  (hstop:∀(D:Nat) (c:Code) (pre:List α) (W:World),w.heap.size≤D→Ix c pre W→W.heap[D]?=some (.deferred (some []))→c.wpIn Fence.wide n P Q { tmps:=a.tmps,defers:=markOf D::a.defers } W) :
  (Code.rangeFunc g ps assign body).wpIn Fence.wide n P Q a w :=
 range_law hg eg hit hps I Ix hok hI hIx h0 (fun x=>{ tmps:=upd a.tmps slots (vals x),defers:=[] }) hassign hbody hdone hstop
end
section
open Go.RowKit
def IterBy {α σ:Type} (P:Program) (g:Nat) (lb:Array Value) (encs:α→Nat→Array Value) (V:α→σ→Nat→World→Prop) (xs:List α) (ok:σ→World→Prop):Prop :=
 ∀(n l:Nat) (J:List α→σ→World→Prop) (Jx:List α→World→Prop) (W:World) (s0:σ),l<W.heap.size→(∀pre s W1,J pre s W1→ok s W1)→(∀pre s,Steady W.heap.size (J pre s))→(∀pre,Steady W.heap.size (Jx pre)) →
  (∀pre x s b W1,J pre s W1→(∃post,xs=pre++x::post)→W.heap.size≤b→V x s b W1→∀m,YieldAt Fence.wide m P l (encs x b) W1 fun e W' =>
   KeepsAbove W.heap.size W1 W'∧((e=.returned (.bool true)∧∃s',J (pre++[x]) s' W')∨(e=.returned (.bool false)∧Jx (pre++[x]) W'))) →
  J [] s0 W →
  CallsIn Fence.wide n P g (#[.func (.yield l) #[] #[]]++lb) W fun e W'=>(∃v,e=.returned v)∧((∃s,J xs s W')∨∃pre,Jx pre W')
theorem range_by {α σ:Type} {P:Program} {n:Nat} {g:Operand} {ps:Array Tmp} {assign body:Code} {Q:Exit→Act→World→Prop} {a:Act} {w:World}
  {gf:Nat} {lb:Array Value} (hg:a.eval g=.func (.func gf) #[] lb) (eg:∀args w,(callFunc gf args).run P w=.ok (.enter gf args) w)
  {encs:α→Nat→Array Value} {V:α→σ→Nat→World→Prop} {xs:List α} {ok:σ→World→Prop} (hit:IterBy P gf lb encs V xs ok) (hps:∀x b,(encs x b).size=ps.size)
  (I:List α→σ→World→Prop) (Ix:Code→List α→World→Prop) (hok:∀pre s W,I pre s W→ok s W) (hI:∀pre s,Steady w.heap.size (I pre s)) (hIx:∀c pre,Steady w.heap.size (Ix c pre)) (hV:∀x s b,Steady w.heap.size (V x s b)) (s0:σ) (h0:I [] s0 w) (a₁:α→Nat→Act)
  (hassign:∀(l m:Nat) (x:α) (b:Nat) (W:World) (K:Act→World→Prop),K (a₁ x b) W →
   assign.wpIn (Fence.wide.inRound l) m P (Exit.then K (fun _ _ _=>False)) { tmps:=(ps.zip (encs x b)).foldl (fun t (p,v)=>t.setIfInBounds p v) a.tmps,defers:=[] } W)
  (hbody:∀(l m:Nat) (pre:List α) (x:α) (s:σ) (b:Nat) (W:World),I pre s W→(∃post,xs=pre++x::post)→w.heap.size≤b→V x s b W→body.wpIn (Fence.wide.inRound l) m P (roundLeft w.heap.size (fun pre W=>∃s,I pre s W) Ix (pre++[x]) W) (a₁ x b) W)
  (hdone:∀(D:Nat) (s:σ) (W:World),w.heap.size≤D→I xs s W→W.heap[D]?=some (.deferred (some []))→Q .normal { a with defers:={ target:=.collected D,args:=#[] }::a.defers } W)
  (hstop:∀(D:Nat) (c:Code) (pre:List α) (W:World),w.heap.size≤D→Ix c pre W→W.heap[D]?=some (.deferred (some []))→c.wpIn Fence.wide n P Q { a with defers:={ target:=.collected D,args:=#[] }::a.defers } W) :
  (Code.rangeFunc g ps assign body).wpIn Fence.wide n P Q a w:=by
 refine wpIn_rangeFunc ?_
 intro fn hfn
 rw[show Fence.wide.round=none from rfl]
 let rec0:LoopState→Option Code→Loop:=fun st pe=>{ state:=st,pending:=pe,fn,tmps:=a.tmps,params:=ps,assign,body,defers:=w.heap.size }
 have hW1:=run_enterLoop_outer (P:=P) (w:=w) fn a.tmps ps assign body
 generalize hw1:(w.alloc (.deferred (some []))).alloc (.loop { state:=.ready,pending:=none,fn,tmps:=a.tmps,params:=ps,assign,body,defers:=w.heap.size })=W1 at hW1
 have hsz:W1.heap.size=w.heap.size+2:=by rw[←hw1];simp
 have hL1:W1.heap[w.heap.size+1]?=some (.loop (rec0 .ready none)):=by
  rw[←hw1]
  have:=World.alloc_heap_new (w.alloc (.deferred (some []))) (.loop (rec0 .ready none))
  rwa[World.size_alloc]at this
 have hD1:W1.heap[w.heap.size]?=some (.deferred (some [])):=by
  rw[←hw1];exact(Below.heap_alloc _ _ _ (by simp)).trans (World.alloc_heap_new w _)
 have hB1:Below w.heap.size w W1:=by
  rw[←hw1];exact((Below.refl _ w).alloc (Nat.le_refl _) _).alloc (by simp) _
 refine⟨w.heap.size+1,[{ target:=.collected w.heap.size,args:=#[] }],W1,{ target:=.fn (.func gf) lb,args:=#[.func (.yield (w.heap.size+1)) #[] #[]] },W1,gf,
  #[.func (.yield (w.heap.size+1)) #[] #[]]++lb,W1,hW1,?_,fun _ _=>trivial,?_,fun h=>by simp[Fence.wide]at h,?_⟩
 ·simp only[resolve,hg]
  simp[go_sem]
 ·simp[invoke,go_sem,eg]
 ·let Jd:List α→σ→World→Prop:=fun pre s W=>I pre s W∧W.heap[w.heap.size+1]?=some (.loop (rec0 .ready none))∧W.heap[w.heap.size]?=some (.deferred (some []))
  let Jx:List α→World→Prop:=fun pre W=>∃c,Ix c pre W∧W.heap[w.heap.size+1]?=some (.loop (rec0 .done (some c)))∧W.heap[w.heap.size]?=some (.deferred (some []))
  have key:=hit (n - 1) (w.heap.size+1) Jd Jx W1 s0 (by omega) (fun pre s W h=>hok pre s W h.1)
   (fun pre s A B h hb=>⟨hI pre s A B h.1 (hb.mono (by omega)),(hb.low _ (by omega) (Array.getElem?_eq_some_iff.1 h.2.1).1).trans h.2.1,(hb.low _ (by omega) (Array.getElem?_eq_some_iff.1 h.2.2).1).trans h.2.2⟩)
   (fun pre A B h hb=>by
    obtain⟨c,h1,h2,h3⟩:=h
    exact⟨c,hIx c pre A B h1 (hb.mono (by omega)),(hb.low _ (by omega) (Array.getElem?_eq_some_iff.1 h2).1).trans h2,(hb.low _ (by omega) (Array.getElem?_eq_some_iff.1 h3).1).trans h3⟩)
   ?_ ⟨hI [] s0 w W1 h0 (.of_below hB1),hL1,hD1⟩
  ·refine key.mono ?_
   rintro e W2 ⟨⟨v,rfl⟩,(⟨s,hi,hl,hk⟩ | ⟨pre,c,hi,hl,hk⟩)⟩
   ·exact⟨none,_,run_endLoop (P:=P) hl (by simp[rec0]),hdone _ s _ (Nat.le_refl _) (hI _ _ _ _ hi (.put (by omega) hl rfl _)) ((World.putObj_heap_other (by omega)).trans hk)⟩
   ·exact⟨some c,_,run_endLoop (P:=P) hl (by simp[rec0]),hstop _ c pre _ (Nat.le_refl _) (hIx c pre _ _ hi (.put (by omega) hl rfl _)) ((World.putObj_heap_other (by omega)).trans hk)⟩
  ·
   rintro pre x s b W ⟨hi,hl,hk⟩ hx hsb hv m
   have hlt:w.heap.size+1<W.heap.size:=(Array.getElem?_eq_some_iff.1 hl).1
   refine⟨fn,_,assign,body,run_yield (P:=P) (args:=encs x b) hl (hps x b),roundIn_of_wpIn hfn (hassign _ m x b W _ ⟨_,run_beginRound hl rfl,?_⟩)⟩
   have hl2:(W.putObj (w.heap.size+1) (.loop (rec0 .busy none))).heap[w.heap.size+1]?=some (.loop (rec0 .busy none)):=World.putObj_heap_same hlt
   have hk2:(W.putObj (w.heap.size+1) (.loop (rec0 .busy none))).heap[w.heap.size]?=some (.deferred (some [])):=(World.putObj_heap_other (by omega)).trans hk
   refine wpIn_mono (hbody _ m pre x s b _ (hI pre s _ _ hi (.put (by omega) hl rfl _)) hx (by omega) (hV x s b _ _ hv (.put (by omega) hl rfl _))) ?_
   have fin:∀(jump:Option Code) (W3:World),KeepsAbove w.heap.size (W.putObj (w.heap.size+1) (.loop (rec0 .busy none))) W3 →
     W3.heap[w.heap.size+1]?=some (.loop (rec0 .busy none))∧W3.heap[w.heap.size]?=some (.deferred (some [])) ∧
     KeepsAbove W1.heap.size W (W3.putObj (w.heap.size+1) (.loop (rec0 (if jump.isNone then .ready else .done) jump))):=fun jump W3 hk3=>by
    have hz:(W.putObj (w.heap.size+1) (.loop (rec0 .busy none))).heap.size=W.heap.size:=by simp[World.putObj]
    have hl3:=(hk3.same (w.heap.size+1) (by omega) (by omega)).trans hl2
    have hd3:=(hk3.same w.heap.size (by omega) (by omega)).trans hk2
    exact⟨hl3,hd3,((KeepsAbove.put hl (by omega)).trans (hk3.mono (by omega))).trans (KeepsAbove.put hl3 (by omega))⟩
   rintro e a3 W3 hp
   cases e with
   | normal =>
    obtain⟨h3,s',hi3⟩:=hp
    obtain⟨hl3,hd3,hk4⟩:=fin none W3 h3
    exact⟨_,_,run_endRound (P:=P) none hl3,hk4,.inl ⟨rfl,s',hI _ _ _ _ hi3 (.put (by omega) hl3 rfl _),World.putObj_heap_same (Array.getElem?_eq_some_iff.1 hl3).1,(World.putObj_heap_other (by omega)).trans hd3⟩⟩
   | ret =>
    obtain⟨h3,hi3⟩:=hp
    obtain⟨hl3,hd3,hk4⟩:=fin (some .ret) W3 h3
    exact⟨_,_,run_endRound (P:=P) (some .ret) hl3,hk4,.inr ⟨rfl,.ret,hIx _ _ _ _ hi3 (.put (by omega) hl3 rfl _),World.putObj_heap_same (Array.getElem?_eq_some_iff.1 hl3).1,(World.putObj_heap_other (by omega)).trans hd3⟩⟩
   | exit id =>
    obtain⟨h3,hi3⟩:=hp
    obtain⟨hl3,hd3,hk4⟩:=fin (some (.exit id)) W3 h3
    exact⟨_,_,run_endRound (P:=P) (some (.exit id)) hl3,hk4,.inr ⟨rfl,.exit id,hIx _ _ _ _ hi3 (.put (by omega) hl3 rfl _),World.putObj_heap_same (Array.getElem?_eq_some_iff.1 hl3).1,(World.putObj_heap_other (by omega)).trans hd3⟩⟩
   | goto t =>
    obtain⟨h3,hi3⟩:=hp
    obtain⟨hl3,hd3,hk4⟩:=fin (some (.goto t)) W3 h3
    exact⟨_,_,run_endRound (P:=P) (some (.goto t)) hl3,hk4,.inr ⟨rfl,.goto t,hIx _ _ _ _ hi3 (.put (by omega) hl3 rfl _),World.putObj_heap_same (Array.getElem?_eq_some_iff.1 hl3).1,(World.putObj_heap_other (by omega)).trans hd3⟩⟩
   | panic ch=>exact hp.elim
   | outgrown=>exact hp.elim
theorem range_by_slots {α σ:Type} {P:Program} {n:Nat} {g:Operand} {ps:Array Tmp} {assign body:Code} {Q:Exit→Act→World→Prop} {a:Act} {w:World}
  {gf:Nat} {lb:Array Value} (hg:a.eval g=.func (.func gf) #[] lb) (eg:∀args w,(callFunc gf args).run P w=.ok (.enter gf args) w)
  {encs:α→Nat→Array Value} {V:α→σ→Nat→World→Prop} {xs:List α} {ok:σ→World→Prop} (hit:IterBy P gf lb encs V xs ok) (hps:∀x b,(encs x b).size=ps.size)
  (I:List α→σ→World→Prop) (Ix:Code→List α→World→Prop) (hok:∀pre s W,I pre s W→ok s W) (hI:∀pre s,Steady w.heap.size (I pre s)) (hIx:∀c pre,Steady w.heap.size (Ix c pre)) (hV:∀x s b,Steady w.heap.size (V x s b)) (s0:σ) (h0:I [] s0 w) (slots:List Nat) (vals:α→Nat→List Value)
  (hassign:∀(l m:Nat) (x:α) (b:Nat) (W:World) (K:Act→World→Prop),K { tmps:=upd a.tmps slots (vals x b),defers:=[] } W →
   assign.wpIn (Fence.wide.inRound l) m P (Exit.then K (fun _ _ _=>False)) { tmps:=(ps.zip (encs x b)).foldl (fun t (p,v)=>t.setIfInBounds p v) a.tmps,defers:=[] } W)
  (hbody:∀(l m:Nat) (pre:List α) (x:α) (s:σ) (b:Nat) (W:World),I pre s W→(∃post,xs=pre++x::post)→w.heap.size≤b→V x s b W→body.wpIn (Fence.wide.inRound l) m P (roundLeft w.heap.size (fun pre W=>∃s,I pre s W) Ix (pre++[x]) W) { tmps:=upd a.tmps slots (vals x b),defers:=[] } W)
  (hdone:∀(D:Nat) (s:σ) (W:World),w.heap.size≤D→I xs s W→W.heap[D]?=some (.deferred (some []))→Q .normal { tmps:=a.tmps,defers:=markOf D::a.defers } W)
  (hstop:∀(D:Nat) (c:Code) (pre:List α) (W:World),w.heap.size≤D→Ix c pre W→W.heap[D]?=some (.deferred (some []))→c.wpIn Fence.wide n P Q { tmps:=a.tmps,defers:=markOf D::a.defers } W) :
  (Code.rangeFunc g ps assign body).wpIn Fence.wide n P Q a w :=
 range_by hg eg hit hps I Ix hok hI hIx hV s0 h0 (fun x b=>{ tmps:=upd a.tmps slots (vals x b),defers:=[] }) hassign hbody hdone hstop
end
end Go
