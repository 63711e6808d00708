import Derived.Test.YtpcmemcanpgadaaGreatDoorXRdG
import Derived.Test.YtpcmemcanpgadaaGreatDoorThatG
import Derived.Test.YtpcmemcanpgadaaGreatDoorPureX
import Derived.OwnWalk
set_option maxHeartbeats 1000000
set_option maxRecDepth 100000
namespace Go.Proofs.YtpcmemcanpgadaaGreatDoor
open PredP (hide Str Rule bs)
open Go.RowKit
def strC (l:List Str):List Value:=l.map vS
def strB (w:World) (b:Nat):Prop:=∃cs f,w.heap[b]?=some (.cells cs 9 f)
def strs (w:World) (v:Value) (l:List Str):Prop:=slAt (strB w) w 1 v (strC l)
theorem slAt.gen {ok:Nat→Prop} {w:World} {size:Nat} {v:Value} {cs:List Value} (h:slAt ok w size v cs) :
  ∃a n cap,v=.slice a n cap∧n≤maxLen∧n≤cap∧cs.length=n * size∧(n=0∨∃g,a=some ⟨g,0,none⟩∧ok g∧g<w.heap.size∧∀j u,cs[j]?=some u→w.cell? ⟨g,j,none⟩=some u):=by
 rcases h with ⟨rfl,rfl⟩ | ⟨g,n,cap,rfl,hm,hok,hg,hl,hc⟩
 ·exact⟨none,0,0,rfl,Nat.zero_le _,Nat.le_refl _,by simp,.inl rfl⟩
 ·exact⟨_,n,cap,rfl,(Nat.le_min.1 hm).2,(Nat.le_min.1 hm).1,hl,.inr ⟨g,rfl,hok,hg,hc⟩⟩
theorem strB.same {w w':World} {b:Nat} (h:strB w b) (e:w'.heap[b]?=w.heap[b]?):strB w' b:=by
 obtain⟨cs,f,h⟩:=h
 exact⟨cs,f,e.trans h⟩
theorem strs.carry {w w':World} {v:Value} {l:List Str} (h:strs w v l) (hs:w.heap.size≤w'.heap.size) (hk:∀b,b<w.heap.size→strB w b→w'.heap[b]?=w.heap[b]?):strs w' v l :=
 slAt.carry hs (fun b hb hl=>⟨hb.same (hk b hl hb),hk b hl hb⟩) h
theorem strs.below {w w':World} {v:Value} {l:List Str} (h:strs w v l) (hb:Below w.heap.size w w'):strs w' v l:=h.carry hb.size (fun b hl _=>hb.block b hl)
theorem strs.drew {w:World} {v:Value} {l:List Str} (h:strs w v l):strs w.drew v l:=h
theorem strC_length (l:List Str):(strC l).length=l.length:=by simp[strC]
theorem strC_get {l:List Str} {k:Nat} {x:Str} (h:l[k]?=some x):(strC l)[k]?=some (vS x):=by simp[strC,h]
theorem eq_str (a b:ByteArray):(a.toList==b.toList)=(bs a==bs b):=by simp only[ByteArray.toList_eq];rfl
theorem take_has {l:List Str} {k:Nat} {x y:Str} (h:l[k]?=some x):hasS (l.take (k+1)) y=(hasS (l.take k) y||(x==y)):=by
 unfold hasS
 rw[List.take_add_one,h]
 simp[List.contains_eq_mem,List.mem_append]
 congr 1
 simp[eq_comm,Bool.beq_eq_decide_eq]
theorem str_cell {w:World} {a:Addr} {x:Str} (h:w.cell? a=some (vS x)):∃c:ByteArray,bs c=x∧w.cell? a=some (.string c):=⟨⟨⟨x⟩⟩,rfl,h⟩
theorem has_take {l:List Str} {k:Nat} {y:Str} (h:hasS (l.take k) y=true):hasS l y=true:=by
 unfold hasS at *
 simp only[List.contains_eq_mem,decide_eq_true_eq]at *
 exact List.mem_of_mem_take h
theorem xhas_any (w:World) (v:Value) (l:List Str) (b:ByteArray) (h:strs w v l) :
  Calls Tryz.prog 37 #[v,.string b] w fun e w'=>e=.returned (.bool (hasS l (bs b)))∧w'=w:=by
 obtain⟨a,n,cap,rfl,hm,_,hl,hc⟩:=h.gen
 unfold maxLen at hm
 have HL:Hid (l.length=n):=hide (by simpa[strC] using hl)
 have HC:=hide hc
 clear hc hl h
 go_enter Tryz.func37,Tryz.ntmps37
 go_wp2_with fail
 go_loopw [9] (fun t wr=>wr=w∧∃k:Nat,k≤n∧t=.int .i64 k∧hasS (l.take k) (bs b)=false) (fun t _=>n - (intOf t).toNat)
 case atStart=>exact⟨rfl,0,by omega,rfl,rfl⟩
 case round =>
  obtain⟨rfl,k,hk,rfl,hR⟩:=hrel
  have HR:=hide hR
  clear hR
  by_cases hk':k<n
  ·rcases HC.out with h0 | ⟨g,rfl,_,hg,hcell⟩
   ·omega
   obtain⟨x,hx⟩:∃x,l[k]?=some x:=⟨l[k]'(by rw[HL.out];exact hk'),List.getElem?_eq_getElem _⟩
   obtain⟨c,hcx,k0⟩:=str_cell (hcell k _ (strC_get hx))
   have HX:=hide (take_has (y:=bs b) hx)
   subst hcx
   clear hcell hx HC
   cases hq:(c.toList==b.toList)
   ·have HQ:=hide ((eq_str _ _).symm.trans hq)
    go_wp2_with fail
    refine⟨⟨trivial,k+1,by omega,by go_num,?_⟩,by simp[intOf];omega⟩
    rw[HX.out,HR.out,show(bs c==bs b)=false from HQ.out];rfl
   ·have HQ:=hide ((eq_str _ _).symm.trans hq)
    go_wp2_with fail
    go_ret
    refine⟨?_,rfl⟩
    rw[has_take (k:=k+1) (l:=l) (by rw[HX.out,show(bs c==bs b)=true from HQ.out,Bool.or_true])]
    rfl
  ·go_wp2_with fail
   go_ret
   refine⟨?_,rfl⟩
   have:l.take k=l:=List.take_of_length_le (by rw[HL.out];omega)
   have h2:=HR.out
   rw[this]at h2
   rw[h2]
   rfl
theorem less_ltS:∀a b:Str,Go.Op.bytesLess a b=PredP.ltS a b
 | [],[]=>rfl
 | [],_::_=>rfl
 | _::_,[]=>rfl
 | a::x,b::y=>by unfold Go.Op.bytesLess PredP.ltS;rw[less_ltS x y]
theorem less_str (a b:ByteArray):Go.Op.bytesLess a.toList b.toList=PredP.ltS (bs a) (bs b):=by simp only[ByteArray.toList_eq];exact less_ltS _ _
theorem infoS:(Tryz.prog.info? 9).map (fun i=>(i.zero,i.size,i.bytes))=some (some (.string ByteArray.empty),1,16):=by kernel_rfl
theorem gtr_str (c y:ByteArray):(!(Go.Op.bytesLess c.toList y.toList||c.toList==y.toList))=PredP.ltS (bs y) (bs c):=by
 rw[less_str,eq_str]
 cases h1:PredP.ltS (bs y) (bs c) with
 | true =>
  have h2:=PredP.ltS_asymm h1
  have h3:(bs c==bs y)=false:=by
   cases h:(bs c==bs y) with
   | false=>rfl
   | true=>rw[beq_iff_eq]at h;rw[h,PredP.ltS_irrefl]at h1;cases h1
  rw[h2,h3];rfl
 | false =>
  cases h2:PredP.ltS (bs c) (bs y) with
  | true=>rfl
  | false=>rw[PredP.ltS_total h1 h2];simp
theorem run_gtr (c y:ByteArray) (W:World):(binOp BinOp.gtr 9 (.string c) (.string y)).run Tryz.prog W=.ok (.bool (!(Go.Op.bytesLess c.toList y.toList||c.toList==y.toList))) W:=by kernel_rfl
theorem run_gtr_no (c y:ByteArray) (W:World) (h:PredP.ltS (bs y) (bs c)=false):(binOp BinOp.gtr 9 (.string c) (.string y)).run Tryz.prog W=.ok (.bool false) W:=by rw[run_gtr,gtr_str,h]
theorem run_gtr_yes (c y:ByteArray) (W:World) (h:PredP.ltS (bs y) (bs c)=true):(binOp BinOp.gtr 9 (.string c) (.string y)).run Tryz.prog W=.ok (.bool true) W:=by rw[run_gtr,gtr_str,h]
structure WIn (w:World) (l:List Str) (y:Str) (k:Nat) (d:Bool) (zs:List Str) (v:Value) (wr:World):Prop where
 low:Below w.heap.size w wr
 own:wr.ownsRow w.heap.size 9 1 v zs.length (strC zs)
 no:d=false→zs=l.take k∧∀x,x∈l.take k→PredP.ltS y x=false
 yes:d=true→zs++l.drop k=PredP.putS y l
 len:zs.length≤k+1
theorem WIn.zero {w w0:World} {l:List Str} {y:Str} (h:w0=w):WIn w l y 0 false [] (.slice none 0 0) w0:=by
 subst h
 exact⟨Below.refl _ _,World.ownsRow_nil _ _ _ _,fun _=>⟨by simp,fun x hx=>by simp at hx⟩,fun e=>(by cases e),Nat.zero_le _⟩
theorem own_one {w w3:World} {v':Value} {zs:List Str} {c:ByteArray} (hown:w3.ownsRow w.heap.size 9 1 v' (zs.length+1) (strC zs++[.string c])):w3.ownsRow w.heap.size 9 1 v' (zs++[bs c]).length (strC (zs++[bs c])):=by
 have e:strC (zs++[bs c])=strC zs++[.string c]:=by simp[strC];rfl
 rw[e,List.length_append];exact hown
theorem low_one {w wr w3:World} {v:Value} {n:Nat} {xs:List Value} {o:Obj} (hl:Below w.heap.size w wr) (hown:wr.ownsRow w.heap.size 9 1 v n xs) (hg:(wr.alloc o).grownBy w3 v.ownBlock):Below w.heap.size w w3:=by
 have h3:Below w.heap.size w (wr.alloc o):=Below.all hl ((Below.refl _ _).alloc (Nat.le_refl _) o)
 exact h3.grown hg h3.size (fun k e=>(hown.lt k e).1)
theorem WIn.skip {w wr w3:World} {l:List Str} {y:Str} {k:Nat} {d:Bool} {zs:List Str} {v v':Value} {c:ByteArray} {o:Obj} (h:WIn w l y k d zs v wr) (hx:l[k]?=some (bs c)) (hq:d=false→PredP.ltS y (bs c)=false)
  (hown:w3.ownsRow w.heap.size 9 1 v' (zs.length+1) (strC zs++[.string c])) (hg:(wr.alloc o).grownBy w3 v.ownBlock):WIn w l y (k+1) d (zs++[bs c]) v' w3:=by
 refine⟨low_one h.low h.own hg,own_one hown,fun hd=>?_,fun hd=>?_,by have:=h.len;simp;omega⟩
 ·obtain⟨h1,h2⟩:=h.no hd
  have e:l.take (k+1)=l.take k++[bs c]:=by rw[List.take_add_one,hx];rfl
  refine⟨by rw[e,h1],fun x hx'=>?_⟩
  rw[e]at hx'
  rcases List.mem_append.1 hx' with hx' | hx'
  ·exact h2 x hx'
  ·rw[List.mem_singleton.1 hx'];exact hq hd
 ·have:=h.yes hd
  rw[drop_get hx]at this
  rw[List.append_assoc];exact this
theorem WIn.both {w wr w2 w3:World} {l:List Str} {k:Nat} {zs:List Str} {v v1 v':Value} {y c:ByteArray} {o o':Obj} (h:WIn w l (bs y) k false zs v wr) (hx:l[k]?=some (bs c)) (hq:PredP.ltS (bs y) (bs c)=true)
  (hown1:w2.ownsRow w.heap.size 9 1 v1 (zs.length+1) (strC zs++[.string y])) (hg1:(wr.alloc o).grownBy w2 v.ownBlock)
  (hown:w3.ownsRow w.heap.size 9 1 v' (zs.length+1+1) (strC zs++[.string y]++[.string c])) (hg:(w2.alloc o').grownBy w3 v1.ownBlock):WIn w l (bs y) (k+1) true (zs++[bs y]++[bs c]) v' w3:=by
 obtain⟨h1,h2⟩:=h.no rfl
 have hl2:=low_one h.low h.own hg1
 refine⟨low_one hl2 hown1 hg,?_,fun e=>(by cases e),fun _=>?_,?_⟩
 ·have e:strC (zs++[bs y]++[bs c])=strC zs++[.string y]++[.string c]:=by simp[strC];exact⟨rfl,rfl⟩
  rw[e,List.length_append,List.length_append];exact hown
 ·have e:l=l.take k++(bs c::l.drop (k+1)):=by rw[←drop_get hx,List.take_append_drop]
  conv=>rhs;rw[e]
  rw[PredP.putS_go _ _ _ h2,PredP.putS,if_pos hq,h1]
  simp
 ·have:zs.length≤k:=by rw[h1,List.length_take];omega
  simp;omega
structure WOut (w:World) (la lb:List Str) (k:Nat) (v:Value) (wr:World):Prop where
 low:Below w.heap.size w wr
 at':strs wr v (PredP.withS la (lb.take k))
theorem own_strs {w wr:World} {v:Value} {zs:List Str} (h:wr.ownsRow w.heap.size 9 1 v zs.length (strC zs)):strs wr v zs :=
 slAt.of_owns h (fun g hg=>by
  rcases h.2 with ⟨rfl,_⟩ | ⟨g',cap,cur,rfl,_,hg',_⟩
  ·cases hg
  ·cases hg
   exact⟨_,_,hg'⟩)
theorem xwith_any (w:World) (va vb:Value) (la lb:List Str) (ha:strs w va la) (hb:strs w vb lb) (hlen:la.length+lb.length≤4000) :
  Calls Tryz.prog 24 #[va,vb] w fun e w'=>∃v,e=.returned v∧strs w' v (PredP.withS la lb)∧Below w.heap.size w w':=by
 obtain⟨ab,nb,capb,rfl,hmb,_,hlb,hcb⟩:=hb.gen
 unfold maxLen at hmb
 have HLB:Hid (lb.length=nb):=hide (by simpa[strC] using hlb)
 have HB:=hide hb
 clear hcb hlb
 obtain⟨i0,hi,hz0,hz1,hz2⟩:=info_parts infoS
 have hnb:nb≤4000:=by have:=HLB.out;omega
 have HLen:Hid (la.length+lb.length≤4000):=hlen
 have hrel0:WOut w la lb 0 va w:=⟨Below.refl _ _,by simpa[PredP.withS] using ha⟩
 clear hlen ha hb
 go_enter Tryz.func24,Tryz.ntmps24
 go_wp2_with fail
 go_loopw [0,13] (fun t0 t wr=>∃k:Nat,k≤nb∧t=.int .i64 k∧WOut w la lb k t0 wr) (fun _ t _=>nb - (intOf t).toNat)
 case atStart=>exact⟨0,by omega,rfl,hrel0⟩
 case round =>
  clear hrel0
  obtain⟨k,hk,rfl,hR⟩:=hrel
  by_cases hk':k<nb
  ·obtain⟨y0,hy0⟩:∃y0,lb[k]?=some y0:=⟨lb[k]'(by rw[HLB.out];exact hk'),List.getElem?_eq_getElem _⟩
   obtain⟨ab',nb',capb',eb,_,_,_,hcb⟩:=(HB.out.below hR.low).gen
   cases eb
   rcases hcb with h0 | ⟨gb,rfl,_,hgb,hcell⟩
   ·omega
   obtain⟨y,hyy,k0⟩:=str_cell (hcell k _ (strC_get hy0))
   subst hyy
   have hlw:=PredP.withS_length (lb.take k) la
   have hlk:(lb.take k).length≤k:=by rw[List.length_take];omega
   have hS:=hR.at'
   have HE:Hid (PredP.withS la (lb.take (k+1))=PredP.putM (PredP.withS la (lb.take k)) (bs y)):=by
    show _=_
    rw[List.take_add_one,hy0];exact PredP.withS_snoc _ _ _
   have hsz:(PredP.withS la (lb.take k)).length≤4000:=by have:=HLen.out;have:=HLB.out;omega
   clear hcell hy0 hlw hlk
   generalize PredP.withS la (lb.take k)=l at hS HE hsz
   have hlow:=hR.low
   clear hR
   obtain⟨a0,n0,cap0,rfl,hm0,_,hl0,_⟩:=hS.gen
   unfold maxLen at hm0
   have HL0:Hid (l.length=n0):=hide (by simpa[strC] using hl0)
   have hn0:n0≤4000:=by have:=HL0.out;omega
   clear hl0 hsz
   cases hh:hasS l (bs y)
   ·have HH:=hide hh
    go_wp2_with (go_at_call 37;refine(xhas_any _ _ l y hS).mono ?_;rintro e w1 ⟨rfl,rfl⟩;rw[HH.out])
    have hrel1:WIn w1 l (bs y) 0 false [] (.slice none 0 0) w1:=WIn.zero rfl
    have hSw:=hS
    go_loopw [7,8,22] (fun v d t wr=>∃j b zs,j≤n0∧t=.int .i64 (j:Nat)∧d=.bool b∧WIn w1 l (bs y) j b zs v wr) (fun _ _ t _=>n0 - (intOf t).toNat)
    case atStart=>exact⟨0,false,[],by omega,rfl,rfl,hrel1⟩
    case round =>
     clear hrel1
     obtain⟨j,b,zs,hj,rfl,rfl,hI⟩:=hrel
     have hzl:=hI.len
     have hlo:=hI.low.size
     by_cases hj':j<n0
     ·obtain⟨x0,hx0⟩:∃x0,l[j]?=some x0:=⟨l[j]'(by rw[HL0.out];exact hj'),List.getElem?_eq_getElem _⟩
      obtain⟨a',n',cap',ea,_,_,_,hca⟩:=(hSw.below hI.low).gen
      cases ea
      rcases hca with h0 | ⟨ga,rfl,_,hga,hcell⟩
      ·omega
      obtain⟨c,hcc,j0⟩:=str_cell (hcell j _ (strC_get hx0))
      subst hcc
      have HX:=hide hx0
      clear hcell hx0
      have hO:=hI.own
      cases b
      ·cases hq:PredP.ltS (bs y) (bs c)
       ·have HQ:=hide hq
        have hgt:=fun W=>run_gtr_no c y W hq
        clear hq
        go_wp2_with (at_builtin;refine wpList_append_own_at _ rfl _ _ _ rfl w1.heap.size 9 i0 (.string ByteArray.empty) 1 16 (by kernel_rfl) hi hz0 hz1 hz2 rfl (by decide) _ zs.length (strC zs) rfl (World.ownsRow.alloc hO _) _ 1 1 [_] rfl rfl (cell_one_new _ _ _) (by simp[Value.oneCell']) (by unfold maxLen;omega) (by omega) (by simp;omega) ?_;intro v2 w2 hown2 hgrow2 _ _)
        have hI3:=hI.skip HX.out (fun _=>HQ.out) hown2 hgrow2
        exact⟨⟨j+1,false,_,by omega,by go_num,rfl,hI3⟩,by simp[intOf];omega⟩
       ·have HQ:=hide hq
        have hgt:=fun W=>run_gtr_yes c y W hq
        clear hq
        go_wp2_with (first
         | (at_builtin;refine wpList_append_own_at _ rfl _ _ _ rfl w1.heap.size 9 i0 (.string ByteArray.empty) 1 16 (by kernel_rfl) hi hz0 hz1 hz2 rfl (by decide) _ (zs.length+1) (strC zs++[.string y]) rfl (World.ownsRow.alloc hown2 _) _ 1 1 [_] rfl rfl (cell_one_new _ _ _) (by simp[Value.oneCell']) (by unfold maxLen;omega) (by omega) (by simp;omega) ?_;intro v3 w3 hown3 hgrow3 _ _)
         | (at_builtin;refine wpList_append_own_at _ rfl _ _ _ rfl w1.heap.size 9 i0 (.string ByteArray.empty) 1 16 (by kernel_rfl) hi hz0 hz1 hz2 rfl (by decide) _ zs.length (strC zs) rfl (World.ownsRow.alloc hO _) _ 1 1 [_] rfl rfl (cell_one_new _ _ _) (by simp[Value.oneCell']) (by unfold maxLen;omega) (by omega) (by simp;omega) ?_;intro v2 w2 hown2 hgrow2 _ _;have hs2:wr.heap.size+1≤w2.heap.size:=(by have:=hgrow2.size;simpa using this)))
        have hI3:=hI.both HX.out HQ.out hown2 hgrow2 hown3 hgrow3
        exact⟨⟨j+1,true,_,by omega,by go_num,rfl,hI3⟩,by simp[intOf];omega⟩
      ·go_wp2_with (at_builtin;refine wpList_append_own_at _ rfl _ _ _ rfl w1.heap.size 9 i0 (.string ByteArray.empty) 1 16 (by kernel_rfl) hi hz0 hz1 hz2 rfl (by decide) _ zs.length (strC zs) rfl (World.ownsRow.alloc hO _) _ 1 1 [_] rfl rfl (cell_one_new _ _ _) (by simp[Value.oneCell']) (by unfold maxLen;omega) (by omega) (by simp;omega) ?_;intro v2 w2 hown2 hgrow2 _ _)
       have hI3:=hI.skip HX.out (fun e=>by cases e) hown2 hgrow2
       exact⟨⟨j+1,true,_,by omega,by go_num,rfl,hI3⟩,by simp[intOf];omega⟩
     ·have hO:=hI.own
      have hjj:j=n0:=by omega
      have HJ:=hide hjj
      clear hjj
      have HW:Hid (Below w.heap.size w w1):=hlow
      have hput:PredP.putM l (bs y)=PredP.putS (bs y) l:=by rw[PredP.putM,if_neg (by rw[show l.contains (bs y)=false from HH.out];simp)]
      have HP:=hide hput
      clear hput
      cases b
      ·go_wp2_with (at_builtin;refine wpList_append_own_at _ rfl _ _ _ rfl w1.heap.size 9 i0 (.string ByteArray.empty) 1 16 (by kernel_rfl) hi hz0 hz1 hz2 rfl (by decide) _ zs.length (strC zs) rfl (World.ownsRow.alloc hO _) _ 1 1 [_] rfl rfl (cell_one_new _ _ _) (by simp[Value.oneCell']) (by unfold maxLen;omega) (by omega) (by simp;omega) ?_;intro v2 w2 hown2 hgrow2 _ _)
       refine⟨⟨k+1,by omega,by go_num,Below.all HW.out (low_one hI.low hO hgrow2),?_⟩,by simp[intOf];omega⟩
       obtain⟨e1,e2⟩:=hI.no rfl
       rw[HJ.out,List.take_of_length_le (by rw[HL0.out];exact Nat.le_refl _)]at e1 e2
       have e3:=PredP.putS_go (bs y) l [] e2
       rw[List.append_nil]at e3
       rw[HE.out,HP.out,e3,←e1]
       exact own_strs (own_one hown2)
      ·go_wp2_with fail
       refine⟨⟨k+1,by omega,by go_num,Below.all HW.out hI.low,?_⟩,by simp[intOf];omega⟩
       have e1:=hI.yes rfl
       rw[HJ.out,List.drop_of_length_le (by rw[HL0.out];exact Nat.le_refl _),List.append_nil]at e1
       rw[HE.out,HP.out,←e1]
       exact own_strs hO
   ·have HH:=hide hh
    go_wp2_with (go_at_call 37;refine(xhas_any _ _ l y hS).mono ?_;rintro e w1 ⟨rfl,rfl⟩;rw[HH.out])
    refine⟨⟨k+1,by omega,by go_num,hlow,?_⟩,by simp[intOf];omega⟩
    rw[HE.out,PredP.putM,if_pos (show l.contains (bs y)=true from HH.out)]
    exact hS
  ·have hkk:k=nb:=by omega
   have HK:=hide hkk
   clear hkk
   obtain⟨a0,n0,cap0,rfl,_⟩:=hR.at'.gen
   go_wp2_with fail
   go_ret
   refine⟨_,rfl,?_,hR.low⟩
   have:=hR.at'
   rw[List.take_of_length_le (by rw[HLB.out,HK.out];exact Nat.le_refl _)]at this
   exact this
end Go.Proofs.YtpcmemcanpgadaaGreatDoor
