import Derived.Test.YtpcmemcanpgadaaGreatDoorMapG
import Derived.Test.YtpcmemcanpgadaaGreatDoorNoneG
import Derived.Test.YtpcmemcanpgadaaGreatDoorPureR
import Derived.Stop.RegionWithIn
set_option maxHeartbeats 2000000
set_option maxRecDepth 100000
namespace Go.Proofs.YtpcmemcanpgadaaGreatDoor
open PredP (hide Str Rule bs)
open Go.RowKit Go.Maps Go.Shelf
attribute [local go_sem] Oper.semAt_some
theorem withAfter_any (w:World) (eb fb:Nat) (ao vo:Option Nat) (a:Option Addr) (n c:Nat) :
  Calls Tryz.prog 115 #[.agg #[.map (some eb),.map (some fb),.map ao],.slice a n c,.map vo] w fun e w' =>
   e=.returned (.func (.func 133) #[] #[.pointer (some ⟨w.heap.size+1,0,none⟩),.pointer (some ⟨w.heap.size,0,none⟩),.pointer (some ⟨w.heap.size+1+1,0,none⟩)]) ∧
   w'=((w.alloc (.cells #[.map (some eb),.map (some fb),.map ao] 91)).alloc (.cells #[.slice a n c] 225)).alloc (.cells #[.map vo] 88):=by
 go_enter Tryz.func115,Tryz.ntmps115
 go_wp2_with fail
 go_ret
 exact⟨rfl,rfl⟩
abbrev Tl:=PredP.Part×PredP.Parts×Value
def tails:PredP.Parts→List Value→List Tl
 | .cons p ps,v::l=>(p,ps,v)::tails ps l
 | _,_=>[]
theorem tails_get {ok:Nat→Prop} {w:World}:∀(ps:PredP.Parts) (us:List Value) (k:Nat) (u:Value),partsAt ok w ps us→us[k]?=some u →
  ∃p rest,(tails ps us)[k]?=some (p,rest,u)∧partAt ok w p u∧partsAt ok w rest (us.drop (k+1))∧(∀x,x∈PredP.namesR rest→x∈PredP.namesR ps)∧(∀x,x∈PredP.wordsR rest→x∈PredP.wordsR ps)
 | .nil,us,k,u,h,hk=>by
  unfold partsAt at h
  subst h
  simp at hk
 | .cons p ps,us,k,u,h,hk=>by
  unfold partsAt at h
  obtain⟨v,l,rfl,hv,hl⟩:=h
  cases k with
  | zero =>
   simp at hk;subst hk
   exact⟨p,ps,rfl,hv,hl,fun x hx=>by rw[PredP.namesR];exact List.mem_append_right _ hx,fun x hx=>by rw[PredP.wordsR];exact List.mem_append_right _ hx⟩
  | succ k =>
   obtain⟨q,rest,h1,h2,h3,h4,h5⟩:=tails_get ps l k u hl (by simpa using hk)
   exact⟨q,rest,h1,h2,h3,fun x hx=>by rw[PredP.namesR];exact List.mem_append_right _ (h4 x hx),fun x hx=>by rw[PredP.wordsR];exact List.mem_append_right _ (h5 x hx)⟩
theorem tails_length {ok:Nat→Prop} {w:World}:∀(ps:PredP.Parts) (us:List Value),partsAt ok w ps us→(tails ps us).length=us.length
 | .nil,us,h=>by
  unfold partsAt at h
  subst h;rfl
 | .cons p ps,us,h=>by
  unfold partsAt at h
  obtain⟨v,l,rfl,hv,hl⟩:=h
  rw[tails,List.length_cons,List.length_cons,tails_length ps l hl]
structure WOk (U l0:List Str) (f:List (Str×Nat)) (F:Str→Str→Bool) (eb fb:Nat) (ao:Option Nat) (okb:Nat→Prop) (ps:PredP.Parts) (us:List Value) (v va:Value) (B:Nat) (A:Str→Bool) (W:World):Prop where
 sts:Sts U l0 f F eb fb W
 may:MaySet U W va A
 sl:slAt okb W 1 v us
 parts:partsAt okb W ps us
 s0:W.cell? ⟨B,0,none⟩=some (.map (some eb))
 s1:W.cell? ⟨B,1,none⟩=some (.map (some fb))
 s2:W.cell? ⟨B,2,none⟩=some (.map ao)
 pc:W.cell? ⟨B+1,0,none⟩=some v
 ac:W.cell? ⟨B+1+1,0,none⟩=some va
def Vof {σ:Type} (U l0:List Str) (F:Str→Str→Bool) (A:σ→Str→Bool) (x:Tl) (s:σ) (b:Nat) (W:World):Prop:=SetOf U W b (fun y=>PredP.telR y (F y) l0.contains (A s y) x.2.1)
theorem take_snoc {α:Type} {l:List α} {k:Nat} {x:α} (h:l[k]?=some x):l.take k++[x]=l.take (k+1):=by
 rw[List.take_add_one,h];rfl
theorem split_k {α:Type} {l:List α} {k:Nat} {x:α} (h:l[k]?=some x):l=l.take k++x::l.drop (k+1):=by
 conv=>lhs;rw[←List.take_append_drop k l,drop_get h]
theorem yield_one {S:Nat} {W1 W':World} {e:Ending} {X Y:Prop} (h:KeepsAbove S W1 W'∧((e=.returned (.bool true)∧X)∨(e=.returned (.bool false)∧Y))):∃r,e=.returned (.bool r)∧KeepsAbove S W1 W'∧((r=true∧X)∨(r=false∧Y)):=by
 obtain⟨h1,⟨h2,h3⟩ | ⟨h2,h3⟩⟩:=h
 ·exact⟨true,h2,h1,.inl ⟨rfl,h3⟩⟩
 ·exact⟨false,h2,h1,.inr ⟨rfl,h3⟩⟩
theorem withAfter_iter {σ:Type} (U l0:List Str) (hU:2 * U.length<maxLen) (f:List (Str×Nat)) (F:Str→Str→Bool) (eb fb:Nat) (ao:Option Nat) (okb:Nat→Prop) (ps:PredP.Parts) (us:List Value) (v va:Value) (B:Nat) (A:σ→Str→Bool)
  (hnm:NamesIn f (PredP.namesR ps)) (hwd:WordsIn U (PredP.wordsR ps)) :
  IterBy Tryz.prog 133 #[.pointer (some ⟨B+1,0,none⟩),.pointer (some ⟨B,0,none⟩),.pointer (some ⟨B+1+1,0,none⟩)] (fun(x:Tl) b=>#[x.2.2,.map (some b)]) (Vof U l0 F A) (tails ps us) (fun s=>WOk U l0 f F eb fb ao okb ps us v va B (A s)):=by
 intro n l J Jx W s0 hl hok hJ hJx hY h0
 have hfn:∀f,Fence.wide.fn f:=fun _=>trivial
 have hdp:Fence.wide.depth=none:=rfl
 have HOK:=hide hok
 have HJ:=hide hJ
 have HY:=hide hY
 have H0:=hide h0
 have hw0:=hok _ _ _ h0
 have htl:=tails_length ps us hw0.parts
 have pc:=hw0.pc
 have hsl:=hw0.sl
 obtain⟨vo,rfl⟩:=hw0.may.form
 clear hok hJ hJx hY h0
 rcases hsl with ⟨rfl,rfl⟩ | ⟨g,m,cap,rfl,hn,hokg,hg,hcs,hcell⟩
 ·have ht0:tails ps []=[]:=List.eq_nil_of_length_eq_zero htl
  have HT:=hide ht0
  clear ht0 htl hw0
  refine callsIn_of_wp Tryz.func133 rfl trivial ?_ rfl
  simp only[Tryz.ntmps133,List.size_toArray,List.length_cons,List.length_nil,Nat.reduceAdd,Nat.reduceSub,Array.replicate_succ,Array.replicate_zero,List.push_toArray,List.append_toArray,List.nil_append,List.cons_append]
  gi_wp2
  gi_loopw [9] (fun t wr=>t=.int .i64 0∧wr=W) (fun _ _=>0)
  case atStart=>exact⟨rfl,rfl⟩
  case round =>
   obtain⟨rfl,rfl⟩:=hrel
   gi_wp2
   go_end0
   exact⟨⟨_,rfl⟩,.inl ⟨s0,by rw[HT.out];exact H0.out⟩⟩
 ·clear hcell hw0
  unfold maxLen at hn
  have hlen:(tails ps us).length=m:=by rw[htl,hcs];simp
  refine callsIn_of_wp Tryz.func133 rfl trivial ?_ rfl
  simp only[Tryz.ntmps133,List.size_toArray,List.length_cons,List.length_nil,Nat.reduceAdd,Nat.reduceSub,Array.replicate_succ,Array.replicate_zero,List.push_toArray,List.append_toArray,List.nil_append,List.cons_append]
  gi_wp2
  clear pc
  gi_loopw [9] (fun t wr=>∃k:Nat,∃s,k≤m∧t=.int .i64 k∧J ((tails ps us).take k) s wr∧W.heap.size≤wr.heap.size) (fun t _=>m - (intOf t).toNat)
  case atStart=>exact⟨0,s0,by omega,rfl,H0.out,Nat.le_refl _⟩
  case round =>
   obtain⟨k,s,hk,rfl,hj,hWs⟩:=hrel
   by_cases hlt:k<m
   ·have hw:=HOK.out _ _ _ hj
    obtain⟨u,hu⟩:∃u,us[k]?=some u:=⟨us[k]'(by rw[hcs];omega),List.getElem?_eq_getElem (by rw[hcs];omega)⟩
    obtain⟨p,rest,hx,hpu,hrest,hn2,hw2⟩:=tails_get ps us k u hw.parts hu
    rcases hw.sl with ⟨e,_⟩ | ⟨g',m',cap',e,hn',hok',hg',hcs',hcell'⟩
    ·cases e
    ·cases e
     have kv:=hcell' k u hu
     have HX:=hide hx
     have a0:wr.drew.cell? ⟨B,0,none⟩=some (.map (some eb)):=hw.s0
     have a1:wr.drew.cell? ⟨B,1,none⟩=some (.map (some fb)):=hw.s1
     have a2:wr.drew.cell? ⟨B,2,none⟩=some (.map ao):=hw.s2
     have a3:wr.drew.cell? ⟨B+1,0,none⟩=some (.slice (some ⟨g,0,none⟩) m cap):=hw.pc
     have a4:wr.drew.cell? ⟨B+1+1,0,none⟩=some (.map vo):=hw.ac
     have hso1:cap=k+1→∀W',Below wr.heap.size wr W'→∀cap',slOff okb W' (.slice (some ⟨g,0,none⟩) (m - (k+1)) cap') (us.drop (k+1)):=fun e W' hW cap'=>.inr ⟨g,0,m - (k+1),cap',rfl,by unfold maxLen;omega,hok',Nat.lt_of_lt_of_le hg' hW.size,by rw[List.length_drop,hcs];omega,fun j u hu=>by
      have:us.drop (k+1)=[]:=List.eq_nil_of_length_eq_zero (by rw[List.length_drop,hcs];unfold maxLen at hn';omega)
      rw[this]at hu;simp at hu⟩
     have hso2:∀W',Below wr.heap.size wr W'→∀cap',slOff okb W' (.slice (some ⟨g,k+1,none⟩) (m - (k+1)) cap') (us.drop (k+1)):=fun W' hW cap'=>.inr ⟨g,k+1,m - (k+1),cap',rfl,by unfold maxLen;omega,hok',Nat.lt_of_lt_of_le hg' hW.size,by rw[List.length_drop,hcs];omega,fun j u hu=>by
      rw[List.getElem?_drop]at hu
      exact(hW.cell (p:=⟨g,k+1+j,none⟩) hg').trans (hcell' _ _ hu)⟩
     have HSO1:=hide hso1
     have HSO2:=hide hso2
     clear hx hpu hu hcell' hso1 hso2
     have hwrap:IntKind.i64.wrap ((k:Int)+1)=(k:Int)+1:=by rw[IntKind.wrap_i64];omega
     have h01:(0:Int)≤(k:Int)+1:=by omega
     have h02:(k:Int)+1≤(m:Int):=by omega
     have h03:((k:Int)+1).toNat=k+1:=by omega
     have hbd:Below wr.heap.size wr wr.drew:=(Below.refl _ _).drew
     have hcall:∀W' v',Below wr.heap.size wr W'→slOff okb W' v' (us.drop (k+1))→Calls Tryz.prog 114 #[.agg #[.map (some eb),.map (some fb),.map ao],v',.map vo] W' (TelPost U W' (fun x=>PredP.telR x (F x) l0.contains (A s x) rest)):=fun W' v' hW hsl' =>
      (tel_all U l0 hU f F eb fb ao (SizeOf.sizeOf rest)).2.1 rest (Nat.le_refl _) okb W' v' (us.drop (k+1)) (.map vo) (A s) (hw.sts.below hW) hsl' (hrest.below hW) (fun x hx=>hnm x (hn2 x hx)) (fun x hx=>hwd x (hw2 x hx)) (hw.may.below hW)
     have HCall:=hide hcall
     clear hcall hw hrest hn2 hw2
     by_cases hcap:cap=k+1
     ·have hif:(cap=k+1)=True:=eq_true hcap
      have HCap:=hide hcap
      clear hcap
      gi_wp2
      gi_region_with (first
       | ((try refine⟨hdd _,?_⟩);gi_at_call 114;refine(callsIn_wide.2 (HCall.out _ _ hbd (HSO1.out HCap.out _ hbd _))).mono ?_;rintro e W2 ⟨bk,rfl,hbk,hs2,hb2⟩;have hbz:=Below.all hbd hb2;have hcall2:=HY.out _ (p,rest,u) s bk W2 (HJ.out _ _ _ _ hj (.of_below hbz)) ⟨_,split_k HX.out⟩ (by have:=hbd.size;omega) hs2 (n - 1);obtain⟨fn,tmps,assign,body,hy,hRd⟩:=hcall2;have HRd:=hide hRd;clear hRd)
       | ((try refine⟨hdd _,?_⟩);refine HRd.out.mono ?_;rintro e W3 hone;obtain⟨r,rfl,hka,hr⟩:=yield_one hone))
      all_goals
       rcases hr with ⟨rfl,s',hj3⟩ | ⟨rfl,hx3⟩
       ·gi_wp2
        rw[take_snoc HX.out]at hj3
        exact⟨⟨k+1,s',by omega,by go_num,hj3,by have:=hka.size;have:=hbz.size;omega⟩,by simp[intOf];omega⟩
       ·gi_wp2
        refine bodyPost_ret_by (results_none rfl _ _ _) rfl ?_
        exact⟨⟨_,rfl⟩,.inr ⟨_,hx3⟩⟩
     ·gi_wp2
      gi_region_with (first
       | ((try refine⟨hdd _,?_⟩);gi_at_call 114;refine(callsIn_wide.2 (HCall.out _ _ hbd (HSO2.out _ hbd _))).mono ?_;rintro e W2 ⟨bk,rfl,hbk,hs2,hb2⟩;have hbz:=Below.all hbd hb2;have hcall2:=HY.out _ (p,rest,u) s bk W2 (HJ.out _ _ _ _ hj (.of_below hbz)) ⟨_,split_k HX.out⟩ (by have:=hbd.size;omega) hs2 (n - 1);obtain⟨fn,tmps,assign,body,hy,hRd⟩:=hcall2;have HRd:=hide hRd;clear hRd)
       | ((try refine⟨hdd _,?_⟩);refine HRd.out.mono ?_;rintro e W3 hone;obtain⟨r,rfl,hka,hr⟩:=yield_one hone))
      all_goals
       rcases hr with ⟨rfl,s',hj3⟩ | ⟨rfl,hx3⟩
       ·gi_wp2
        rw[take_snoc HX.out]at hj3
        exact⟨⟨k+1,s',by omega,by go_num,hj3,by have:=hka.size;have:=hbz.size;omega⟩,by simp[intOf];omega⟩
       ·gi_wp2
        refine bodyPost_ret_by (results_none rfl _ _ _) rfl ?_
        exact⟨⟨_,rfl⟩,.inr ⟨_,hx3⟩⟩
   ·gi_wp2
    go_end0
    have ek:k=(tails ps us).length:=by omega
    rw[ek,List.take_length]at hj
    exact⟨⟨_,rfl⟩,.inl ⟨s,hj⟩⟩
end Go.Proofs.YtpcmemcanpgadaaGreatDoor
