import Derived.Test.YtpcmemcanpgadaaGreatDoorTellG
import Derived.Test.YtpcmemcanpgadaaGreatDoorThatG
import Derived.Test.YtpcmemcanpgadaaGreatDoorAstG
import Derived.Shelf.Abstract
import Derived.WalkKit
import Derived.OwnWalkIn
import Derived.TacticsInMore
import Derived.LoopNIn
import Derived.LoopIn
set_option maxHeartbeats 2000000
set_option maxRecDepth 100000
namespace Go.Proofs.YtpcmemcanpgadaaGreatDoor
open PredP (hide Str Rule bs)
section
open Go.RowKit Go.Shelf
attribute [local go_sem] Oper.semAt_some
def KeptAt (okb:Nat→Prop) (w0 W:World):Prop:=w0.heap.size≤W.heap.size∧∀b,okb b→b<w0.heap.size→W.heap[b]?=w0.heap[b]?
theorem KeptAt.part {okb:Nat→Prop} {w0 W:World} (h:KeptAt okb w0 W) {p:PredP.Part} {v:Value} (hp:partAt okb w0 p v):partAt okb W p v:=partAt.carry h.1 (fun b hb hl=>⟨hb,h.2 b hb hl⟩) p v hp
theorem KeptAt.sl {okb:Nat→Prop} {w0 W:World} (h:KeptAt okb w0 W) {n:Nat} {v:Value} {cs:List Value} (hp:slAt okb w0 n v cs):slAt okb W n v cs:=hp.carry h.1 (fun b hb hl=>⟨hb,h.2 b hb hl⟩)
theorem KeptAt.cell {okb:Nat→Prop} {w0 W:World} (h:KeptAt okb w0 W) {b o:Nat} (hb:okb b) (hl:b<w0.heap.size):W.cell? ⟨b,o,none⟩=w0.cell? ⟨b,o,none⟩:=World.cell?_of_block (a:=⟨b,o,none⟩) (h.2 b hb hl)
theorem KeptAt.shape {okb:Nat→Prop} {w0 W:World} (h:KeptAt okb w0 W) {b n ty:Nat} (hb:okb b) (hl:b<w0.heap.size) (hs:w0.shape? b=some (ty,n)):W.shape? b=some (ty,n):=by
 unfold World.shape? at *
 rw[h.2 b hb hl]
 exact hs
def TellC (l S:Nat) (okb:Nat→Prop) (w0:World) (all:List (PredP.Part×Value)) (J Jx:List (PredP.Part×Value)→World→Prop) (e:PredP.Rows):Prop :=
 ∀(n:Nat) (W:World) (v:Value) (cs:List Value) (xs pre post:List (PredP.Part×Value)),slAt okb w0 2 v cs→tellsE okb w0 e cs xs→all=pre++xs++post→S≤W.heap.size→J pre W →
  CallsIn Fence.wide n Tryz.prog 141 #[v,.func (.yield l) #[] #[]] W fun e W'=>W.heap.size≤W'.heap.size∧((e=.returned (.bool true)∧J (pre++xs) W')∨(e=.returned (.bool false)∧∃q,Jx q W'))
structure RowsTold (okb:Nat→Prop) (w0:World) (S:Nat) (e:PredP.Rows) (cs:List Value) (xs pre:List (PredP.Part×Value)) (J:List (PredP.Part×Value)→World→Prop) (k:Nat) (e':PredP.Rows) (done rest:List (PredP.Part×Value)) (wr:World):Prop where
 tells:tellsE okb w0 e' (cs.drop (k * 2)) rest
 split:xs=done++rest
 inv:J (pre++done) wr
 size:SizeOf.sizeOf e'≤SizeOf.sizeOf e
 low:S≤wr.heap.size
structure PartsTold (okb:Nat→Prop) (w0:World) (S:Nat) (r:PredP.Parts) (us:List Value) (ys pre:List (PredP.Part×Value)) (J:List (PredP.Part×Value)→World→Prop) (j:Nat) (ps':PredP.Parts) (done rest:List (PredP.Part×Value)) (wr:World):Prop where
 tells:tellsR okb w0 ps' (us.drop j) rest
 split:ys=done++rest
 inv:J (pre++done) wr
 size:SizeOf.sizeOf ps'≤SizeOf.sizeOf r
 low:S≤wr.heap.size
theorem hdd (k:Nat):Fence.wide.depth.isSome=true→1≤k:=fun h=>by simp[Fence.wide]at h
theorem tellParts_in (l S:Nat) (okb:Nat→Prop) (w0:World) (all:List (PredP.Part×Value)) (J Jx:List (PredP.Part×Value)→World→Prop)
  (hok:Hid (∀pre W,J pre W→KeptAt okb w0 W)) (hJ:Hid (∀pre,Steady S (J pre)))
  (hY:Hid (∀pre x W1,J pre W1→(∃post,all=pre++x::post)→∀m,YieldAt Fence.wide m Tryz.prog l #[x.2] W1 fun e W' =>
   KeepsAbove S W1 W'∧((e=.returned (.bool true)∧J (pre++[x]) W')∨(e=.returned (.bool false)∧Jx (pre++[x]) W'))))
  (e:PredP.Rows) (IH:Hid (∀e':PredP.Rows,SizeOf.sizeOf e'<SizeOf.sizeOf e→TellC l S okb w0 all J Jx e')):TellC l S okb w0 all J Jx e:=by
 intro n W v cs xs pre post hsl htl hall hS h0
 have hfn:∀f,Fence.wide.fn f:=fun _=>trivial
 have hdp:Fence.wide.depth=none:=rfl
 rcases hsl with ⟨rfl,rfl⟩ | ⟨g,m,cap,rfl,hn,hokg,hg,hcs,hcell⟩
 ·have hx:xs=[]:=tellsE.done (k:=0) (n:=0) (cs:=[]) htl (by omega) rfl
  subst hx
  have H0:=hide h0
  clear IH hY hJ hok htl hall h0
  refine callsIn_of_wp Tryz.func141 rfl trivial ?_ rfl
  simp only[Tryz.ntmps141,List.size_toArray,List.length_cons,List.length_nil,Nat.reduceAdd,Nat.reduceSub,Array.replicate_succ,Array.replicate_zero,List.push_toArray,List.append_toArray,List.nil_append,List.cons_append]
  gi_wp2
  gi_loopw [11] (fun t wr=>t=.int .i64 0∧wr=W) (fun _ _=>0)
  case atStart=>exact⟨rfl,rfl⟩
  case round =>
   obtain⟨rfl,rfl⟩:=hrel
   gi_wp2
   go_ret
   exact⟨Nat.le_refl _,.inl ⟨rfl,by simpa using H0.out⟩⟩
 ·have HC:=hide hcell
  have HA:=hide hall
  clear hcell hall
  unfold maxLen at hn
  have hrel0:RowsTold okb w0 S e cs xs pre J 0 e [] xs W:=⟨by simpa using htl,rfl,by simpa using h0,Nat.le_refl _,hS⟩
  clear htl h0
  refine callsIn_of_wp Tryz.func141 rfl trivial ?_ rfl
  simp only[Tryz.ntmps141,List.size_toArray,List.length_cons,List.length_nil,Nat.reduceAdd,Nat.reduceSub,Array.replicate_succ,Array.replicate_zero,List.push_toArray,List.append_toArray,List.nil_append,List.cons_append]
  gi_wp2
  gi_loopw [11] (fun t wr=>∃k:Nat,∃e' done rest,k≤m∧t=.int .i64 k∧RowsTold okb w0 S e cs xs pre J k e' done rest wr∧W.heap.size≤wr.heap.size) (fun t _=>m - (intOf t).toNat)
  case atStart=>exact⟨0,e,[],xs,by omega,rfl,hrel0,Nat.le_refl _⟩
  case round =>
   clear hrel0
   obtain⟨k,e',done,rest,hk,rfl,hR,hWs⟩:=hrel
   by_cases hlt:k<m
   ·obtain⟨bar,r,e2,u,us,ys,zs,he,hx,hc0,hc1,hu,hrs,hrest⟩:=hR.tells.at hlt hcs
    have hkp:=hok.out _ _ hR.inv
    have k0:=(hkp.cell (o:=k * 2) hokg hg).trans (HC.out _ _ hc0)
    have k1:=(hkp.cell (o:=k * 2+1) hokg hg).trans (HC.out _ _ hc1)
    have HX:=hide hx
    have hsz:SizeOf.sizeOf r<SizeOf.sizeOf e∧SizeOf.sizeOf e2≤SizeOf.sizeOf e:=by have:=hR.size;rw[he]at this;simp at this;omega
    clear hc0 hc1 hx he hkp
    have hJ0:∀o,J (pre++done) (wr.alloc o):=fun o=>hJ.out _ _ _ hR.inv (.of_below ((Below.refl _ wr).alloc (Nat.le_refl _) o))
    have HJ0:=hide hJ0
    clear hJ0
    rcases hu with ⟨rfl,rfl⟩ | ⟨g1,m1,cap1,rfl,hn1,hokg1,hg1,hus,hcell1⟩
    ·have hys0:ys=[]:=tellsR.done (k:=0) (n:=0) (cs:=[]) hrs (by omega) rfl
     have HY0:=hide hys0
     clear hys0 hrs
     gi_wp2
     gi_loopw [18] (fun t wi=>t=.int .i64 0∧J (pre++done) wi∧wr.heap.size≤wi.heap.size) (fun _ _=>0)
     case atStart=>exact⟨rfl,HJ0.out _,by simp⟩
     case round =>
      obtain⟨rfl,hji,hwi⟩:=hrel
      gi_wp2
      exact⟨⟨k+1,e2,done,zs,by omega,by go_num,⟨hrest,by rw[hR.split,HX.out,HY0.out];simp,hji,hsz.2,by have:=hR.low;omega⟩,by omega⟩,by simp[intOf];omega⟩
    ·have HC1:=hide hcell1
     clear hcell1
     unfold maxLen at hn1
     gi_wp2
     gi_loopw [18] (fun t wi=>∃j:Nat,∃ps' done' rest',j≤m1∧t=.int .i64 j∧PartsTold okb w0 S r us ys (pre++done) J j ps' done' rest' wi∧W.heap.size≤wi.heap.size) (fun t _=>m1 - (intOf t).toNat)
     case atStart=>exact⟨0,r,[],ys,by omega,rfl,⟨by simpa using hrs,rfl,by simpa using HJ0.out _,Nat.le_refl _,by have:=hR.low;simp;omega⟩,by simp;omega⟩
     case round =>
      obtain⟨j,ps',done',rest',hj,rfl,hP,hWi⟩:=hrel
      by_cases hlt1:j<m1
      ·obtain⟨p,ps2,v,ys1,zs1,hp,hx1,hv,hpv,htp,hprest⟩:=hP.tells.at hlt1 hus
       have hkp:=hok.out _ _ hP.inv
       have kv:=(hkp.cell (o:=j) hokg1 hg1).trans (HC1.out _ _ hv)
       have HX1:=hide hx1
       have hszp:SizeOf.sizeOf p<SizeOf.sizeOf e∧SizeOf.sizeOf ps2≤SizeOf.sizeOf r:=by have:=hP.size;rw[hp]at this;simp at this;omega
       clear hv hp hx1 hkp
       cases p with
       | word st =>
        obtain⟨ys2,hys2,hys⟩:∃ys2:List (PredP.Part×Value),ys2=[]∧ys1=(.word st,v)::ys2:=⟨[],rfl,by unfold tellsP at htp;exact htp⟩
        have hcall:=hY.out (pre++done++done') (.word st,v) _ hP.inv ⟨ys2++zs1++zs++post,by rw[HA.out,hR.split,HX.out,hP.split,HX1.out,hys];simp⟩ (n - 1)
        obtain⟨bp,a,rfl,hok1,hb1,c0,hs1,ha1,hsh⟩:=id hpv
        obtain⟨fn,tmps,assign,body,hy,hRd⟩:=hcall
        have HRd:=hide hRd
        have HYS:=hide hys
        clear hRd hys htp
        gi_wp2_with ((try refine⟨hdd _,?_⟩);refine HRd.out.mono ?_;rintro e W3 ⟨hka,(⟨rfl,hJ3⟩ | ⟨rfl,hx3⟩)⟩)
        ·have hkp3:=hok.out _ _ hJ3
         have hsh3:=hkp3.shape hok1 hb1 hsh
         rw[m_word bp 1 W3 _ ?_ hsh3]
         rotate_left
         ·kernel_rfl
         have hz3:=hka.size
         have hlow:=hP.low
         clear hy
         gi_wp2_with (first
          | ((try refine⟨hdd _,?_⟩);gi_at_call 201;refine(callsIn_wide.2 (single_within W3)).mono ?_;rintro e W4 ⟨rfl,hb4⟩;have hJ4:=hJ.out _ _ _ hJ3 (.of_below hb4);have hz4:=hb4.size)
          | ((try refine⟨hdd _,?_⟩);gi_at_call 141;refine(IH.out .nil (by have:=hszp;simp at this ⊢;omega) _ _ _ _ ys2 _ (zs1++zs++post) (.inl ⟨rfl,rfl⟩) (by unfold tellsE;exact⟨rfl,hys2⟩) (by rw[HA.out,hR.split,HX.out,hP.split,HX1.out,HYS.out];simp) (by omega) hJ4).mono ?_;rintro e W5 ⟨hz5,(⟨rfl,hJ5⟩ | ⟨rfl,q5,hx5⟩)⟩))
         ·exact⟨⟨j+1,ps2,done'++ys1,zs1,by omega,by go_num,⟨hprest,by rw[hP.split,HX1.out];simp,by rw[HYS.out];simpa using hJ5,hszp.2,by omega⟩,by omega⟩,by simp[intOf];omega⟩
         ·go_ret
          exact⟨by omega,.inr ⟨rfl,q5,hx5⟩⟩
        ·go_ret
         have hz3:=hka.size
         exact⟨by omega,.inr ⟨rfl,_,hx3⟩⟩
       | name st qp =>
        obtain⟨ys2,hys2,hys⟩:∃ys2:List (PredP.Part×Value),ys2=[]∧ys1=(.name st qp,v)::ys2:=⟨[],rfl,by unfold tellsP at htp;exact htp⟩
        have hcall:=hY.out (pre++done++done') (.name st qp,v) _ hP.inv ⟨ys2++zs1++zs++post,by rw[HA.out,hR.split,HX.out,hP.split,HX1.out,hys];simp⟩ (n - 1)
        obtain⟨bp,a,rfl,hok1,hb1,c0,hs1,ha1,c1,hsh⟩:=id hpv
        obtain⟨fn,tmps,assign,body,hy,hRd⟩:=hcall
        have HRd:=hide hRd
        have HYS:=hide hys
        clear hRd hys htp
        gi_wp2_with ((try refine⟨hdd _,?_⟩);refine HRd.out.mono ?_;rintro e W3 ⟨hka,(⟨rfl,hJ3⟩ | ⟨rfl,hx3⟩)⟩)
        ·have hkp3:=hok.out _ _ hJ3
         have hsh3:=hkp3.shape hok1 hb1 hsh
         rw[m_name bp 2 W3 _ ?_ hsh3]
         rotate_left
         ·kernel_rfl
         have hz3:=hka.size
         have hlow:=hP.low
         clear hy
         gi_wp2_with (first
          | ((try refine⟨hdd _,?_⟩);gi_at_call 201;refine(callsIn_wide.2 (single_within W3)).mono ?_;rintro e W4 ⟨rfl,hb4⟩;have hJ4:=hJ.out _ _ _ hJ3 (.of_below hb4);have hz4:=hb4.size)
          | ((try refine⟨hdd _,?_⟩);gi_at_call 141;refine(IH.out .nil (by have:=hszp;simp at this ⊢;omega) _ _ _ _ ys2 _ (zs1++zs++post) (.inl ⟨rfl,rfl⟩) (by unfold tellsE;exact⟨rfl,hys2⟩) (by rw[HA.out,hR.split,HX.out,hP.split,HX1.out,HYS.out];simp) (by omega) hJ4).mono ?_;rintro e W5 ⟨hz5,(⟨rfl,hJ5⟩ | ⟨rfl,q5,hx5⟩)⟩))
         ·exact⟨⟨j+1,ps2,done'++ys1,zs1,by omega,by go_num,⟨hprest,by rw[hP.split,HX1.out];simp,by rw[HYS.out];simpa using hJ5,hszp.2,by omega⟩,by omega⟩,by simp[intOf];omega⟩
         ·go_ret
          exact⟨by omega,.inr ⟨rfl,q5,hx5⟩⟩
        ·go_ret
         have hz3:=hka.size
         exact⟨by omega,.inr ⟨rfl,_,hx3⟩⟩
       | br kk qp ee =>
        cases kk with
        | opt =>
         obtain⟨b9,u9,cs9,ys2,hv9,hc9,hsl9,hys,hte⟩:=htp
         have hcall:=hY.out (pre++done++done') (.br .opt qp ee,v) _ hP.inv ⟨ys2++zs1++zs++post,by rw[HA.out,hR.split,HX.out,hP.split,HX1.out,hys];simp⟩ (n - 1)
         obtain⟨bp,u1,cs1,rfl,hok1,hb1,c0,c1,hsl0,hrows0⟩:=id hpv
         obtain rfl:b9=bp:=by simpa using hv9.symm
         obtain rfl:u9=u1:=by rw[c1]at hc9;simpa using hc9.symm
         obtain⟨ua,un,uc,rfl⟩:=slAt.form (ok:=okb) (w:=w0) (size:=2) (cs:=cs9) hsl9
         simp only[tyOf]at kv
         obtain⟨fn,tmps,assign,body,hy,hRd⟩:=hcall
         simp only[tyOf]at hy
         have HRd:=hide hRd
         have HYS:=hide hys
         clear hRd hys
         gi_wp2_with ((try refine⟨hdd _,?_⟩);refine HRd.out.mono ?_;rintro e W3 ⟨hka,(⟨rfl,hJ3⟩ | ⟨rfl,hx3⟩)⟩)
         ·have hkp3:=hok.out _ _ hJ3
          have d0:=(hkp3.cell (o:=0) hok1 hb1).trans c0
          have d1:=(hkp3.cell (o:=1) hok1 hb1).trans c1
          rw[m_opt b9 W3 _ ?_ qp ua un uc d0 d1]
          rotate_left
          ·kernel_rfl
          have hz3:=hka.size
          have hlow:=hP.low
          clear hy
          gi_wp2_with (first
           | ((try refine⟨hdd _,?_⟩);gi_at_call 202;refine(callsIn_wide.2 (bracket_within W3 qp ua un uc)).mono ?_;rintro e W4 ⟨rfl,hb4⟩;have hJ4:=hJ.out _ _ _ hJ3 (.of_below hb4);have hz4:=hb4.size)
           | ((try refine⟨hdd _,?_⟩);gi_at_call 141;refine(IH.out ee (by have:=hszp;simp at this ⊢;omega) _ _ _ _ ys2 _ (zs1++zs++post) hsl9 hte (by rw[HA.out,hR.split,HX.out,hP.split,HX1.out,HYS.out];simp) (by omega) hJ4).mono ?_;rintro e W5 ⟨hz5,(⟨rfl,hJ5⟩ | ⟨rfl,q5,hx5⟩)⟩))
          ·exact⟨⟨j+1,ps2,done'++ys1,zs1,by omega,by go_num,⟨hprest,by rw[hP.split,HX1.out];simp,by rw[HYS.out];simpa using hJ5,hszp.2,by omega⟩,by omega⟩,by simp[intOf];omega⟩
          ·go_ret
           exact⟨by omega,.inr ⟨rfl,q5,hx5⟩⟩
         ·go_ret
          have hz3:=hka.size
          exact⟨by omega,.inr ⟨rfl,_,hx3⟩⟩
        | loop =>
         obtain⟨b9,u9,cs9,ys2,hv9,hc9,hsl9,hys,hte⟩:=htp
         have hcall:=hY.out (pre++done++done') (.br .loop qp ee,v) _ hP.inv ⟨ys2++zs1++zs++post,by rw[HA.out,hR.split,HX.out,hP.split,HX1.out,hys];simp⟩ (n - 1)
         obtain⟨bp,u1,cs1,rfl,hok1,hb1,c0,c1,hsl0,hrows0⟩:=id hpv
         obtain rfl:b9=bp:=by simpa using hv9.symm
         obtain rfl:u9=u1:=by rw[c1]at hc9;simpa using hc9.symm
         obtain⟨ua,un,uc,rfl⟩:=slAt.form (ok:=okb) (w:=w0) (size:=2) (cs:=cs9) hsl9
         simp only[tyOf]at kv
         obtain⟨fn,tmps,assign,body,hy,hRd⟩:=hcall
         simp only[tyOf]at hy
         have HRd:=hide hRd
         have HYS:=hide hys
         clear hRd hys
         gi_wp2_with ((try refine⟨hdd _,?_⟩);refine HRd.out.mono ?_;rintro e W3 ⟨hka,(⟨rfl,hJ3⟩ | ⟨rfl,hx3⟩)⟩)
         ·have hkp3:=hok.out _ _ hJ3
          have d0:=(hkp3.cell (o:=0) hok1 hb1).trans c0
          have d1:=(hkp3.cell (o:=1) hok1 hb1).trans c1
          rw[m_loop b9 W3 _ ?_ qp ua un uc d0 d1]
          rotate_left
          ·kernel_rfl
          have hz3:=hka.size
          have hlow:=hP.low
          clear hy
          gi_wp2_with (first
           | ((try refine⟨hdd _,?_⟩);gi_at_call 202;refine(callsIn_wide.2 (bracket_within W3 qp ua un uc)).mono ?_;rintro e W4 ⟨rfl,hb4⟩;have hJ4:=hJ.out _ _ _ hJ3 (.of_below hb4);have hz4:=hb4.size)
           | ((try refine⟨hdd _,?_⟩);gi_at_call 141;refine(IH.out ee (by have:=hszp;simp at this ⊢;omega) _ _ _ _ ys2 _ (zs1++zs++post) hsl9 hte (by rw[HA.out,hR.split,HX.out,hP.split,HX1.out,HYS.out];simp) (by omega) hJ4).mono ?_;rintro e W5 ⟨hz5,(⟨rfl,hJ5⟩ | ⟨rfl,q5,hx5⟩)⟩))
          ·exact⟨⟨j+1,ps2,done'++ys1,zs1,by omega,by go_num,⟨hprest,by rw[hP.split,HX1.out];simp,by rw[HYS.out];simpa using hJ5,hszp.2,by omega⟩,by omega⟩,by simp[intOf];omega⟩
          ·go_ret
           exact⟨by omega,.inr ⟨rfl,q5,hx5⟩⟩
         ·go_ret
          have hz3:=hka.size
          exact⟨by omega,.inr ⟨rfl,_,hx3⟩⟩
        | grp =>
         obtain⟨b9,u9,cs9,ys2,hv9,hc9,hsl9,hys,hte⟩:=htp
         have hcall:=hY.out (pre++done++done') (.br .grp qp ee,v) _ hP.inv ⟨ys2++zs1++zs++post,by rw[HA.out,hR.split,HX.out,hP.split,HX1.out,hys];simp⟩ (n - 1)
         obtain⟨bp,u1,cs1,rfl,hok1,hb1,c0,c1,hsl0,hrows0⟩:=id hpv
         obtain rfl:b9=bp:=by simpa using hv9.symm
         obtain rfl:u9=u1:=by rw[c1]at hc9;simpa using hc9.symm
         obtain⟨ua,un,uc,rfl⟩:=slAt.form (ok:=okb) (w:=w0) (size:=2) (cs:=cs9) hsl9
         simp only[tyOf]at kv
         obtain⟨fn,tmps,assign,body,hy,hRd⟩:=hcall
         simp only[tyOf]at hy
         have HRd:=hide hRd
         have HYS:=hide hys
         clear hRd hys
         gi_wp2_with ((try refine⟨hdd _,?_⟩);refine HRd.out.mono ?_;rintro e W3 ⟨hka,(⟨rfl,hJ3⟩ | ⟨rfl,hx3⟩)⟩)
         ·have hkp3:=hok.out _ _ hJ3
          have d0:=(hkp3.cell (o:=0) hok1 hb1).trans c0
          have d1:=(hkp3.cell (o:=1) hok1 hb1).trans c1
          rw[m_grp b9 W3 _ ?_ qp ua un uc d0 d1]
          rotate_left
          ·kernel_rfl
          have hz3:=hka.size
          have hlow:=hP.low
          clear hy
          gi_wp2_with (first
           | ((try refine⟨hdd _,?_⟩);gi_at_call 202;refine(callsIn_wide.2 (bracket_within W3 qp ua un uc)).mono ?_;rintro e W4 ⟨rfl,hb4⟩;have hJ4:=hJ.out _ _ _ hJ3 (.of_below hb4);have hz4:=hb4.size)
           | ((try refine⟨hdd _,?_⟩);gi_at_call 141;refine(IH.out ee (by have:=hszp;simp at this ⊢;omega) _ _ _ _ ys2 _ (zs1++zs++post) hsl9 hte (by rw[HA.out,hR.split,HX.out,hP.split,HX1.out,HYS.out];simp) (by omega) hJ4).mono ?_;rintro e W5 ⟨hz5,(⟨rfl,hJ5⟩ | ⟨rfl,q5,hx5⟩)⟩))
          ·exact⟨⟨j+1,ps2,done'++ys1,zs1,by omega,by go_num,⟨hprest,by rw[hP.split,HX1.out];simp,by rw[HYS.out];simpa using hJ5,hszp.2,by omega⟩,by omega⟩,by simp[intOf];omega⟩
          ·go_ret
           exact⟨by omega,.inr ⟨rfl,q5,hx5⟩⟩
         ·go_ret
          have hz3:=hka.size
          exact⟨by omega,.inr ⟨rfl,_,hx3⟩⟩
      ·have hx0:rest'=[]:=hP.tells.done hlt1 hus
       have hys0:ys=done':=by rw[hP.split,hx0];simp
       have HY0:=hide hys0
       clear hx0 hys0
       gi_wp2
       exact⟨⟨k+1,e2,done++ys,zs,by omega,by go_num,⟨hrest,by rw[hR.split,HX.out];simp,by rw[HY0.out,←List.append_assoc];exact hP.inv,hsz.2,hP.low⟩,hWi⟩,by simp[intOf];omega⟩
   ·have hx0:rest=[]:=hR.tells.done hlt hcs
    have hxs:xs=done:=by rw[hR.split,hx0];simp
    have HX0:=hide hxs
    clear hx0 hxs
    gi_wp2
    go_ret
    exact⟨hWs,.inl ⟨rfl,by rw[HX0.out];exact hR.inv⟩⟩
theorem tell_all (l S:Nat) (okb:Nat→Prop) (w0:World) (all:List (PredP.Part×Value)) (J Jx:List (PredP.Part×Value)→World→Prop)
  (hok:∀pre W,J pre W→KeptAt okb w0 W) (hJ:∀pre,Steady S (J pre))
  (hY:∀pre x W1,J pre W1→(∃post,all=pre++x::post)→∀m,YieldAt Fence.wide m Tryz.prog l #[x.2] W1 fun e W' =>
   KeepsAbove S W1 W'∧((e=.returned (.bool true)∧J (pre++[x]) W')∨(e=.returned (.bool false)∧Jx (pre++[x]) W'))) (n:Nat) :
  ∀e:PredP.Rows,SizeOf.sizeOf e≤n→TellC l S okb w0 all J Jx e:=by
 induction n using Nat.strongRecOn with
 | _ n ih=>exact fun e he=>tellParts_in l S okb w0 all J Jx hok hJ hY e fun e' he'=>ih (SizeOf.sizeOf e') (by omega) e' (Nat.le_refl _)
end
section
open Go.RowKit Go.Shelf
attribute [local go_sem] Oper.semAt_some
theorem allParts_any (w:World) (a:Option Addr) (n c:Nat):Calls Tryz.prog 131 #[.slice a n c] w fun e w'=>e=.returned (.func (.func 140) #[] #[.pointer (some ⟨w.heap.size,0,none⟩)])∧w'=w.alloc (.cells #[.slice a n c] 95):=by
 go_enter Tryz.func131,Tryz.ntmps131
 go_wp2_with fail
 go_ret
 exact⟨rfl,rfl⟩
theorem names_any (w:World) (a:Option Addr) (n c:Nat):Calls Tryz.prog 109 #[.slice a n c] w fun e w'=>e=.returned (.func (.func 130) #[] #[.pointer (some ⟨w.heap.size,0,none⟩)])∧w'=w.alloc (.cells #[.slice a n c] 95):=by
 go_enter Tryz.func109,Tryz.ntmps109
 go_wp2_with fail
 go_ret
 exact⟨rfl,rfl⟩
def BoxAt (okb:Nat→Prop) (w0:World) (B:Nat) (v:Value) (W:World):Prop:=W.cell? ⟨B,0,none⟩=some v∧KeptAt okb w0 W
theorem allParts_iter (okb:Nat→Prop) (w0:World) (B:Nat) (a:Option Addr) (m c:Nat) (e:PredP.Rows) (cs:List Value) (all:List (PredP.Part×Value)) (hsl:slAt okb w0 2 (.slice a m c) cs) (ht:tellsE okb w0 e cs all) :
  IterOf Tryz.prog 140 #[.pointer (some ⟨B,0,none⟩)] (fun x:PredP.Part×Value=>#[x.2]) all (BoxAt okb w0 B (.slice a m c)):=by
 intro n l J Jx W hl hok hJ hJx hY h0
 have hc:=(hok [] W h0).1
 have htc:=hide (tell_all l W.heap.size okb w0 all J Jx (fun pre W h=>(hok pre W h).2) hJ hY (SizeOf.sizeOf e) e (Nat.le_refl _) (n - 1) W (.slice a m c) cs all [] [] hsl ht (by simp) (Nat.le_refl _) h0)
 have hfn:∀f,Fence.wide.fn f:=fun _=>trivial
 have hdp:Fence.wide.depth=none:=rfl
 clear hok hJ hJx hY h0 ht hsl
 refine callsIn_of_wp Tryz.func140 rfl trivial ?_ rfl
 simp only[Tryz.ntmps140,List.size_toArray,List.length_cons,List.length_nil,Nat.reduceAdd,Nat.reduceSub,Array.replicate_succ,Array.replicate_zero,List.push_toArray,List.append_toArray,List.nil_append,List.cons_append]
 gi_wp2_with ((try refine⟨hdd _,?_⟩);gi_at_call 141;refine htc.out.mono ?_;rintro e W1 ⟨hz,(⟨rfl,hJ1⟩ | ⟨rfl,q,hx⟩)⟩)
 ·go_end0
  exact⟨⟨_,rfl⟩,.inl (by simpa using hJ1)⟩
 ·go_end0
  exact⟨⟨_,rfl⟩,.inr ⟨q,hx⟩⟩
abbrev Nm:=Str×Nat×Nat
def nameV:PredP.Part×Value→Option Nm
 | (.name s p,.iface _ (.pointer (some a)))=>some (s,p,a.block)
 | _=>none
def NmAt (okb:Nat→Prop) (w0:World) (x:Nm):Prop:=∃a,okb x.2.2∧x.2.2<w0.heap.size∧w0.cell? ⟨x.2.2,0,none⟩=some (.string a)∧bs a=x.1∧a.size≤400∧w0.cell? ⟨x.2.2,1,none⟩=some (.int .i64 (x.2.1:Int))
theorem nms_of {okb:Nat→Prop} {w0:World}:∀(xs:List (PredP.Part×Value)),(∀x∈xs,partAt okb w0 x.1 x.2)→((xs.filterMap nameV).map fun x=>(x.1,x.2.1))=(xs.map (·.1)).filterMap nameOf∧∀x∈xs.filterMap nameV,NmAt okb w0 x
 | [],_=>⟨rfl,fun x hx=>by simp at hx⟩
 | (p,v)::xs,h=>by
  obtain⟨h1,h2⟩:=nms_of xs (fun x hx=>h x (List.mem_cons_of_mem _ hx))
  have hp:=h (p,v) List.mem_cons_self
  cases p with
  | word s=>exact⟨by rw[List.filterMap_cons_none rfl,h1];rfl,fun x hx=>h2 x (by rwa[List.filterMap_cons_none rfl]at hx)⟩
  | br k q e=>exact⟨by rw[List.filterMap_cons_none rfl,h1];rfl,fun x hx=>h2 x (by rwa[List.filterMap_cons_none rfl]at hx)⟩
  | name s q =>
   unfold partAt at hp
   obtain⟨b,a,rfl,hok,hb,c0,hs,ha,c1,_⟩:=hp
   have e1:nameV (.name s q,.iface 210 (.pointer (some ⟨b,0,none⟩)))=some (s,q,b):=rfl
   refine⟨by rw[List.filterMap_cons_some e1,List.map_cons,h1];rfl,fun x hx=>?_⟩
   rw[List.filterMap_cons_some e1]at hx
   rcases List.mem_cons.1 hx with rfl | hx
   ·exact⟨a,hok,hb,c0,hs,ha,c1⟩
   ·exact h2 x hx
theorem _root_.Go.KeepsAbove.cell {S b o:Nat} {A B:World} {v:Value} (h:KeepsAbove S A B) (hb:S≤b) (hv:A.cell? ⟨b,o,none⟩=some v):B.cell? ⟨b,o,none⟩=A.cell? ⟨b,o,none⟩ :=
 World.cell?_of_block (a:=⟨b,o,none⟩) (h.same b hb (World.block_lt_of_cell? A _ hv))
theorem names_iter (okb:Nat→Prop) (w0:World) (B:Nat) (a:Option Addr) (m c:Nat) (e:PredP.Rows) (cs:List Value) (all:List (PredP.Part×Value)) (hsl:slAt okb w0 2 (.slice a m c) cs) (ht:tellsE okb w0 e cs all) (hall:∀x∈all,partAt okb w0 x.1 x.2) :
  IterOf Tryz.prog 130 #[.pointer (some ⟨B,0,none⟩)] (fun x:Nm=>#[.pointer (some ⟨x.2.2,0,none⟩)]) (all.filterMap nameV) (BoxAt okb w0 B (.slice a m c)):=by
 intro n l J Jx W hl hok hJ hJx hY h0
 have hc:=(hok [] W h0).1
 have hc1:=fun o=>(((Below.refl _ W).alloc (Nat.le_refl _) o).cell (p:=⟨B,0,none⟩) (World.block_lt_of_cell? W _ hc)).trans hc
 have hfn:∀f,Fence.wide.fn f:=fun _=>trivial
 have hdp:Fence.wide.depth=none:=rfl
 have HOK:=hide hok
 have HJ:=hide hJ
 have HJX:=hide hJx
 have HY:=hide hY
 have H0:=hide h0
 clear hok hJ hJx hY h0
 refine callsIn_of_wp_marks Tryz.func130 rfl trivial ?_ rfl
 simp only[Tryz.ntmps130,List.size_toArray,List.length_cons,List.length_nil,Nat.reduceAdd,Nat.reduceSub,Array.replicate_succ,Array.replicate_zero,List.push_toArray,List.append_toArray,List.nil_append,List.cons_append]
 gi_wp2_with ((try refine⟨hdd _,?_⟩);gi_at_call 131;refine(callsIn_wide.2 (allParts_any _ a m c)).mono ?_;rintro e w1 ⟨rfl,rfl⟩)
 obtain⟨w2,hw2⟩:∃w2,(W.alloc (.cells #[.func (.yield l) #[] #[]] 245)).alloc (.cells #[.slice a m c] 95)=w2:=⟨_,rfl⟩
 have hB2:Below W.heap.size W w2:=by rw[←hw2];exact((Below.refl _ W).alloc (Nat.le_refl _) _).alloc (by simp) _
 have hz2:w2.heap.size=W.heap.size+2:=by rw[←hw2];simp
 have y0:w2.cell? ⟨W.heap.size,0,none⟩=some (.func (.yield l) #[] #[]):=by rw[←hw2];exact past_fresh rfl
 have b0:w2.cell? ⟨W.heap.size+1,0,none⟩=some (.slice a m c):=by rw[←hw2];exact cell_fresh2 rfl
 rw[hw2]
 have HIT:=hide (allParts_iter okb w0 (W.heap.size+1) a m c e cs all hsl ht)
 clear hw2 hc1 hsl ht
 refine range_law (α:=PredP.Part×Value) (gf:=140) (lb:=#[.pointer (some ⟨W.heap.size+1,0,none⟩)]) rfl (enters_of Tryz.func140 (by kernel_rfl) rfl) HIT.out (fun _=>rfl)
  (fun pre W1=>J (pre.filterMap nameV) W1∧W1.cell? ⟨W.heap.size,0,none⟩=some (.func (.yield l) #[] #[])∧W1.cell? ⟨W.heap.size+1,0,none⟩=some (.slice a m c))
  (fun cd _ W1=>cd=.ret∧∃q,Jx q W1) ?hok ?hI ?hIx ?h0
  (fun x=>{ tmps:=#[.func (.yield l) #[] #[],.pointer (some ⟨B,0,none⟩),.pointer (some ⟨W.heap.size,0,none⟩),x.2,undef,undef,.slice a m c,.func (.func 140) #[] #[.pointer (some ⟨W.heap.size+1,0,none⟩)],x.2,undef,undef,undef,undef,undef,undef,undef,undef,undef,undef,undef,undef],defers:=[] }) ?assign ?body ?done ?stop
 case hok=>exact fun pre W1 h=>⟨h.2.2,(HOK.out _ _ h.1).2⟩
 case hI=>exact fun pre A B h hb=>⟨HJ.out _ _ _ h.1 (hb.mono (by omega)),hb.cell h.2.1,hb.cell h.2.2⟩
 case hIx=>exact fun cd pre A B ⟨h1,q,h⟩ hb=>⟨h1,q,HJX.out _ _ _ h (hb.mono (by omega))⟩
 case h0=>exact⟨HJ.out _ _ _ H0.out (.of_below hB2),y0,b0⟩
 case assign =>
  intro l1 m1 x W1 K hK
  have hK':=hide hK
  clear hK
  gi_wp2
  exact hK'.out
 case body =>
  intro l1 m1 pre x W1 ⟨hj,hy,hb⟩ ⟨post,hsp⟩
  obtain⟨p,v⟩:=x
  have hp:=hall (p,v) (by rw[hsp];simp)
  have hno:nameV (p,v)=none→J ((pre++[(p,v)]).filterMap nameV) W1:=fun h=>by rw[List.filterMap_append,List.filterMap_cons_none h];simpa using hj
  have HNO:=hide hno
  clear hno
  cases p with
  | word s =>
   obtain⟨bp,sa,rfl,_⟩:=hp
   have asn:=as_word_name
   gi_wp2
   exact⟨.refl _ _,HNO.out rfl,hy,hb⟩
  | br k q e =>
   obtain⟨bp,u1,cs1,rfl,_⟩:=hp
   cases k with
   | opt =>
    have asn:=as_option_name
    simp only[tyOf]at *
    gi_wp2
    exact⟨.refl _ _,HNO.out rfl,hy,hb⟩
   | loop =>
    have asn:=as_loop_name
    simp only[tyOf]at *
    gi_wp2
    exact⟨.refl _ _,HNO.out rfl,hy,hb⟩
   | grp =>
    have asn:=as_group_name
    simp only[tyOf]at *
    gi_wp2
    exact⟨.refl _ _,HNO.out rfl,hy,hb⟩
  | name s q =>
   obtain⟨bp,sa,rfl,_⟩:=hp
   have asn:=as_name_name
   have hn1:nameV (.name s q,.iface 210 (.pointer (some ⟨bp,0,none⟩)))=some (s,q,bp):=rfl
   have hcall:=HY.out (pre.filterMap nameV) (s,q,bp) _ hj ⟨post.filterMap nameV,by rw[hsp,List.filterMap_append,List.filterMap_cons_some hn1]⟩ (m1 - 1)
   have HN1:Hid (∀Z:List Nm→World→Prop,∀W,Z (pre.filterMap nameV++[(s,q,bp)]) W→Z ((pre++[((PredP.Part.name s q,Value.iface 210 (.pointer (some ⟨bp,0,none⟩))):PredP.Part×Value)]).filterMap nameV) W):=hide (fun Z W h=>by rw[List.filterMap_append,List.filterMap_cons_some hn1];exact h)
   clear hn1 hsp hall
   obtain⟨fn,tmps,assign,body,hyy,hRd⟩:=hcall
   have HRd:=hide hRd
   clear hRd
   gi_wp2_with ((try refine⟨hdd _,?_⟩);refine HRd.out.mono ?_;rintro e W3 ⟨hka,(⟨rfl,hJ3⟩ | ⟨rfl,hx3⟩)⟩)
   ·exact⟨hka.mono (by omega),HN1.out J _ hJ3,(hka.cell (Nat.le_refl _) hy).trans hy,(hka.cell (Nat.le_succ _) hb).trans hb⟩
   ·exact⟨hka.mono (by omega),rfl,_,hx3⟩
 case done =>
  intro D W1 hD ⟨hj,_,_⟩ hdd
  have hj':=hide hj
  gi_wp2
  refine⟨by simp,.inl ⟨_,_,rfl,run_takeDeferred hdd,?_⟩⟩
  exact⟨_,results_none rfl _ _ _,⟨_,rfl⟩,.inl (HJ.out _ _ _ hj (.put (by omega) hdd rfl _))⟩
 case stop =>
  intro D cd pre W1 hD ⟨hcd,q,hx⟩ hdd
  subst hcd
  gi_wp2
  refine⟨by simp,.inl ⟨_,_,rfl,run_takeDeferred hdd,?_⟩⟩
  exact⟨_,results_none rfl _ _ _,⟨_,rfl⟩,.inr ⟨q,HJX.out _ _ _ hx (.put (by omega) hdd rfl _)⟩⟩
end
end Go.Proofs.YtpcmemcanpgadaaGreatDoor
