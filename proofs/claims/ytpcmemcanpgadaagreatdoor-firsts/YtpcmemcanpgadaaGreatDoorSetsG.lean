import Derived.Test.YtpcmemcanpgadaaGreatDoorRuleG
import Derived.Test.YtpcmemcanpgadaaGreatDoorPureA
import Derived.Test.YtpcmemcanpgadaaGreatDoorAstG
import Derived.Maps.OwnSet
import Derived.Maps.OwnOps
import Derived.Maps.RangeWalk
set_option maxHeartbeats 2000000
set_option maxRecDepth 100000
namespace Go.Proofs.YtpcmemcanpgadaaGreatDoor
open PredP (hide Str Rule bs)
section
open Go.RowKit Go.Maps
theorem undSet:Tryz.prog.underlying 88=some (.map 9 100):=by kernel_rfl
theorem undStr:Tryz.prog.underlying 9=some .string:=by kernel_rfl
theorem zeroUnit (w:World):(zeroValue 100).run Tryz.prog w=.ok (.agg #[]) w:=by kernel_rfl
theorem lawStr:Keyed Tryz.prog 9:=string_keyed undStr
theorem keyS (a:ByteArray) (h:a.size≤maxLen):keyOf Tryz.prog 9 (.string a)=some (.string (bs a)):=Go.WideMaps.keyOf_string_mk undStr h
theorem le_max {n:Nat} (h:n≤400):n≤maxLen:=by unfold maxLen;omega
theorem owns_tight {H:Type} {P:Program} {k:TypeId} {R:Value→Option (DataW H×List MemPlace)} {w:World} {b n:Nat} {D:DataW H} (h:w.ownsMap P k R b n D):w.ownsMap P k R b (Maps.size D) D:=by
 obtain⟨es,clock,hb,F,_,rfl⟩:=h
 exact⟨es,clock,hb,F,by simp[Maps.size,length_sorted],rfl⟩
def SetAt (w:World) (b:Nat) (l:List Str):Prop :=
 ∃D:DataW Unit,w.ownsMap Tryz.prog 9 unitElem b l.length D∧l.Nodup∧(∀s,Maps.has D (.string s)=l.contains s)∧Maps.size D=l.length
def hasS (l:List Str) (s:Str):Bool:=l.contains s
def ins (s:Str) (l:List Str):List Str:=if l.contains s then l else s::l
theorem ins_contains (s x:Str) (l:List Str):(ins s l).contains x=(l.contains x||x==s):=by
 unfold ins
 split
 ·rename_i h
  cases hx:x==s
  ·simp
  ·rw[beq_iff_eq]at hx;subst hx;rw[h];rfl
 ·rw[List.contains_cons,Bool.or_comm]
theorem ins_nodup {s:Str} {l:List Str} (h:l.Nodup):(ins s l).Nodup:=by
 unfold ins
 split
 ·exact h
 ·rename_i hs
  rw[List.nodup_cons]
  exact⟨by simpa using hs,h⟩
theorem SetAt.lt {w:World} {b:Nat} {l:List Str} (h:SetAt w b l):b<w.heap.size:=by
 obtain⟨D,h,_⟩:=h
 exact h.lt
theorem SetAt.kept {w w':World} {b:Nat} {l:List Str} {row:Option Nat} (h:SetAt w b l) (hg:w.grownBy w' row) (hne:some b≠row):SetAt w' b l:=by
 obtain⟨D,h,r⟩:=h
 exact⟨D,h.kept hg hne,r⟩
theorem SetAt.block {w w':World} {b:Nat} {l:List Str} (h:SetAt w b l) (hb:w'.heap[b]?=w.heap[b]?):SetAt w' b l:=by
 obtain⟨D,⟨es,clock,h1,h2⟩,r⟩:=h
 exact⟨D,⟨es,clock,hb.trans h1,h2⟩,r⟩
theorem SetAt.made (w:World):SetAt (w.alloc (.map #[] 0)) w.heap.size []:=⟨_,World.ownsMap_made w _ _ _,by simp,fun _=>rfl,rfl⟩
theorem isKey (s:Str):WideAt.IsKeyLit (.string s):=by simp[WideAt.IsKeyLit]
theorem put_set {D:DataW Unit} {l:List Str} {s:Str} (hT:Tidy D) (hn:l.Nodup) (hh:∀s,Maps.has D (.string s)=l.contains s) (hz:Maps.size D=l.length) :
  (ins s l).Nodup∧(∀x,Maps.has (D.put (.string s) (.agg [])) (.string x)=(ins s l).contains x)∧Maps.size (D.put (.string s) (.agg []))=(ins s l).length:=by
 refine⟨ins_nodup hn,fun x=>?_,?_⟩
 ·rw[ins_contains]
  by_cases hx:x=s
  ·subst hx
   rw[has_put_same hT.isMap (isKey x)];simp
  ·rw[has_put_other (by simpa using hx),hh x]
   simp[hx]
 ·rw[size_put hT,hh s,hz]
  unfold ins
  split<;>simp_all
theorem has_any (w:World) (b:Nat) (l:List Str) (a:ByteArray) (ha:a.size≤maxLen) (h:SetAt w b l) :
  Calls Tryz.prog 40 #[.map (some b),.string a] w fun e w'=>e=.returned (.bool (hasS l (bs a)))∧Below w.heap.size w w':=by
 obtain⟨D,hown,hn,hh,hz⟩:=h
 have HH:=hide (hh (bs a))
 have hkey:=hide (keyS a ha)
 clear hh hn hz
 go_enter Tryz.func40,Tryz.ntmps40
 go_wp2_with (at_lookup;refine wpList_lookup_own_unit _ rfl _ _ 88 rfl 9 100 lawStr undSet (zeroUnit _) b l.length D rfl hown _ _ rfl hkey.out ?_)
 go_ret
 exact⟨ret_bool HH.out,(Below.refl _ _).alloc (Nat.le_refl _) _⟩
theorem add_any (w:World) (b:Nat) (l:List Str) (a:ByteArray) (ha:a.size≤maxLen) (hl:l.length<maxLen) (h:SetAt w b l) :
  Calls Tryz.prog 41 #[.map (some b),.string a] w fun e w'=>e=.returned (.tuple #[])∧w.grownBy w' (some b)∧SetAt w' b (ins (bs a) l):=by
 obtain⟨D,hown,hn,hh,hz⟩:=h
 have hkey:=hide (keyS a ha)
 have hput:=hide (put_set (s:=bs a) (hown.tidy lawStr) hn hh hz)
 clear hh hn hz
 go_enter Tryz.func41,Tryz.ntmps41
 go_wp2_with (at_mapUpdate;refine wpList_mapUpdate_own _ rfl _ _ _ 88 rfl 9 100 lawStr undSet _ b l.length D rfl hown hl _ _ _ rfl rfl hkey.out _ [] unitElem_mk ?_;intro w1 hown1 hgrow1)
 go_end0
 exact⟨rfl,hgrow1,⟨_,by have:=owns_tight hown1;rwa[hput.out.2.2]at this,hput.out⟩⟩
structure AddRel (w:World) (b b':Nat) (l l':List Str) (wr:World) (D':DataW Unit) (r:Nat) (left:Lit→Bool) (cnt:Nat) (cur:List Str):Prop where
 rg:wr.ranges Tryz.prog 9 unitElem b' r l'.length D' left cnt
 set:SetAt wr b cur
 but:But b w wr
 mem:∀s,cur.contains s=(l.contains s||(l'.contains s&&!left (.string s)))
 lefts:∀s,left (.string s)=true→l'.contains s=true
 len:cur.length+cnt≤l.length+l'.length
 rlt:w.heap.size≤r
theorem sameKey_str (x y:Str):(Lit.string x).sameKey (.string y)=(x==y):=by
 by_cases h:x=y
 ·subst h;rw[WideAt.sameKey_self (isKey x)];simp
 ·rw[sameKey_ne (by simpa using h)];simp[h]
theorem AddRel.step {w:World} {b b':Nat} {l l':List Str} {wr:World} {D':DataW Unit} {r:Nat} {left:Lit→Bool} {cnt cnt1:Nat} {cur:List Str} (h:AddRel w b b' l l' wr D' r left cnt cur) (hne:b≠b') (hb:b<w.heap.size)
  {c:ByteArray} {w1 w2:World} (hl:left (.string (bs c))=true) (hrg1:w1.ranges Tryz.prog 9 unitElem b' r l'.length D' (fun z=>left z&&!z.sameKey (.string (bs c))) cnt1) (hlt:cnt1<cnt) (hg1:wr.grownBy w1 (some r)) (hg2:w1.grownBy w2 (some b)) (hset:SetAt w2 b (ins (bs c) cur)) :
  (∃left cnt cur,AddRel w b b' l l' w2 D' r left cnt cur)∧w2.rangeLeft b' r<wr.rangeLeft b' r:=by
 have hr:=h.rlt
 have hrg2:=hrg1.kept hg2 (fun e=>by have:=Option.some.inj e;omega) (fun e=>by have:=Option.some.inj e;omega)
 refine⟨⟨_,cnt1,_,hrg2,hset,(h.but.of_grown hg1 (fun k e=>by cases e;exact hr)).trans ⟨hg2.os,hg2.tape,hg2.output,hg2.size,fun k hk hkb=>hg2.block k hk (fun e=>hkb (Option.some.inj e))⟩,?_,?_,?_,hr⟩,?_⟩
 ·intro s
  have hm:=h.mem s
  have hll:=h.lefts s
  rw[ins_contains,hm,sameKey_str]
  by_cases hs:s=bs c
  ·subst hs;rw[hl,hll hl];simp
  ·have:(s==bs c)=false:=by simpa using hs
   rw[this];simp
 ·intro s hs
  simp only[Bool.and_eq_true]at hs
  exact h.lefts s hs.1
 ·have:=h.len
  have hz:(ins (bs c) cur).length≤cur.length+1:=by unfold ins;split<;>simp
  omega
 ·rw[hrg2.left_eq,h.rg.left_eq];exact hlt
theorem addAll_any (w:World) (b b':Nat) (l l':List Str) (hne:b≠b') (hlen:l.length+l'.length<maxLen) (h:SetAt w b l) (h':SetAt w b' l') :
  Calls Tryz.prog 77 #[.map (some b),.map (some b')] w fun e w'=>e=.returned (.tuple #[])∧But b w w'∧∃l2,SetAt w' b l2∧(∀s,l2.contains s=(l.contains s||l'.contains s)):=by
 have hb:=h.lt
 obtain⟨D',hown',hn',hh',hz'⟩:=h'
 have HH':=hide hh'
 have HS:=hide h
 clear hh' hn' h
 go_enter Tryz.func77,Tryz.ntmps77
 go_wp2_with (at_range;refine wpList_range_own _ rfl _ 88 rfl 9 100 lawStr undSet _ b' l'.length _ rfl hown' ?_;intro w0 hrg0 hg0 hs0)
 go_frame
 have hrel0:AddRel w b b' l l' w0 D' w.heap.size (Maps.has D') (Maps.size D') l:=⟨hrg0,HS.out.kept hg0 (by simp),(But.refl b w).of_grown hg0 (fun k e=>by cases e),fun s=>by rw[HH'.out s];simp,fun s hs=>by rw[←HH'.out s];exact hs,by rw[hz'];exact Nat.le_refl _,Nat.le_refl _⟩
 go_loopw [4] (fun _ wr=>∃left cnt cur,AddRel w b b' l l' wr D' w.heap.size left cnt cur) (fun _ wr=>wr.rangeLeft b' w.heap.size)
 case atStart=>exact⟨_,_,_,hrel0⟩
 case round =>
  clear hrel0
  obtain⟨left,cnt,cur,hR⟩:=hrel
  go_wp2_with (at_next;refine wpList_next_ranges _ rfl _ rfl 9 lawStr unitElem Value.string (fun _:Unit=>.agg #[]) (fun key kl hk=>by obtain⟨x,rfl,_⟩:=Go.WideMaps.string_of_keyOf undStr hk;exact⟨x,rfl⟩) (fun v y hv=>by obtain⟨rfl,_⟩:=unitElem_inv hv;exact⟨(),rfl⟩) b' w.heap.size l'.length _ _ _ rfl hR.rg ?_ ?_)
  ·intro hc0 hl0
   go_wp2_with fail
   go_end0
   exact⟨rfl,hR.but,cur,hR.set,fun s=>by rw[hR.mem s,hl0];simp⟩
  ·intro x c kl y w1 cnt1 hkey hlk hv hat hrg1 hlt hg1 hs1 hen
   obtain⟨x',ex,ekl,hx⟩:=Go.WideMaps.string_of_keyOf undStr hkey
   cases ex
   have HK:=hide ekl
   clear ekl hat hv
   have hs1':=hR.set.kept hg1 (fun e=>by have:=Option.some.inj e;omega)
   have hlc:cur.length<maxLen:=by have:=hR.len;omega
   go_wp2_with (go_at_call 41;refine(add_any _ b cur x hx hlc hs1').mono ?_;rintro e w2 ⟨rfl,hg2,hset2⟩)
   rw[HK.out]at hlk hrg1
   exact hR.step hne hb hlk hrg1 hlt hg1 hg2 hset2
end
section
open Go.RowKit Go.Maps
def DerP (F:Nat) (b:Bool) (p:PredP.Part):Prop:=∀(ok:Nat→Prop) (w:World) (v:Value) (kb:Nat) (l:List Str),partAt ok w p v→SetAt w kb l →
 Calls Tryz.prog F #[v,.map (some kb)] w fun e w'=>e=.returned (.bool (PredP.derP b l.contains p))∧Below w.heap.size w w'
def DerE (F:Nat) (b:Bool) (e:PredP.Rows):Prop:=∀(ok:Nat→Prop) (w:World) (v:Value) (cs:List Value) (kb:Nat) (l:List Str),slAt ok w 2 v cs→rowsAt ok w e cs→SetAt w kb l →
 Calls Tryz.prog 112 #[v,.map (some kb),.func (.func F) #[] #[]] w fun e' w'=>e'=.returned (.bool (PredP.derE b l.contains e))∧Below w.heap.size w w'
theorem rowsAt.at {ok:Nat→Prop} {w:World} {e:PredP.Rows} {cs:List Value} {k n:Nat} (h:rowsAt ok w e (cs.drop (k * 2))) (hk:k<n) (hn:cs.length=n * 2) :
  ∃bar r e' u us,e=.cons bar r e'∧cs[k * 2]?=some (.int .i64 (bar:Int))∧cs[k * 2+1]?=some u∧slAt ok w 1 u us∧partsAt ok w r us∧rowsAt ok w e' (cs.drop ((k+1) * 2)):=by
 cases e with
 | nil =>
  unfold rowsAt at h
  rw[List.drop_eq_nil_iff]at h
  omega
 | cons bar r e' =>
  unfold rowsAt at h
  obtain⟨u,us,l',hl,h1,h2,h3⟩:=h
  have e1:cs[k * 2]?=(cs.drop (k * 2))[0]?:=by rw[List.getElem?_drop];rfl
  have e2:cs[k * 2+1]?=(cs.drop (k * 2))[1]?:=by rw[List.getElem?_drop]
  have e3:cs.drop ((k+1) * 2)=l':=by
   rw[show(k+1) * 2=k * 2+2 by omega,←List.drop_drop,hl];rfl
  exact⟨bar,r,e',u,us,rfl,by rw[e1,hl];rfl,by rw[e2,hl];rfl,h1,h2,by rw[e3];exact h3⟩
theorem rowsAt.done {ok:Nat→Prop} {w:World} {e:PredP.Rows} {cs:List Value} {k n:Nat} (h:rowsAt ok w e (cs.drop (k * 2))) (hk:¬k<n) (hn:cs.length=n * 2):e=.nil:=by
 rw[List.drop_eq_nil_iff.2 (by omega)]at h
 cases e with
 | nil=>rfl
 | cons bar r e' =>
  unfold rowsAt at h
  obtain⟨_,_,_,hl,_⟩:=h
  simp at hl
theorem partsAt.at {ok:Nat→Prop} {w:World} {ps:PredP.Parts} {cs:List Value} {k n:Nat} (h:partsAt ok w ps (cs.drop k)) (hk:k<n) (hn:cs.length=n * 1) :
  ∃p ps' v,ps=.cons p ps'∧cs[k]?=some v∧partAt ok w p v∧partsAt ok w ps' (cs.drop (k+1)):=by
 cases ps with
 | nil =>
  unfold partsAt at h
  rw[List.drop_eq_nil_iff]at h
  omega
 | cons p ps' =>
  unfold partsAt at h
  obtain⟨v,l',hl,h1,h2⟩:=h
  have e1:cs[k]?=(cs.drop k)[0]?:=by rw[List.getElem?_drop];rfl
  have e3:cs.drop (k+1)=l':=by rw[←List.drop_drop,hl];rfl
  exact⟨p,ps',v,rfl,by rw[e1,hl];rfl,h1,by rw[e3];exact h2⟩
theorem partsAt.done {ok:Nat→Prop} {w:World} {ps:PredP.Parts} {cs:List Value} {k n:Nat} (h:partsAt ok w ps (cs.drop k)) (hk:¬k<n) (hn:cs.length=n * 1):ps=.nil:=by
 rw[List.drop_eq_nil_iff.2 (by omega)]at h
 cases ps with
 | nil=>rfl
 | cons p ps' =>
  unfold partsAt at h
  obtain⟨_,_,hl,_⟩:=h
  simp at hl
theorem partAt.below {ok:Nat→Prop} {w w':World} {p:PredP.Part} {v:Value} (h:partAt ok w p v) (hb:Below w.heap.size w w'):partAt ok w' p v:=partAt.carry hb.size (fun b hok hl=>⟨hok,hb.block b hl⟩) p v h
theorem partsAt.below {ok:Nat→Prop} {w w':World} {p:PredP.Parts} {v:List Value} (h:partsAt ok w p v) (hb:Below w.heap.size w w'):partsAt ok w' p v:=partsAt.carry hb.size (fun b hok hl=>⟨hok,hb.block b hl⟩) p v h
theorem rowsAt.below {ok:Nat→Prop} {w w':World} {p:PredP.Rows} {v:List Value} (h:rowsAt ok w p v) (hb:Below w.heap.size w w'):rowsAt ok w' p v:=rowsAt.carry hb.size (fun b hok hl=>⟨hok,hb.block b hl⟩) p v h
theorem slAt.below {ok:Nat→Prop} {w w':World} {n:Nat} {v:Value} {l:List Value} (h:slAt ok w n v l) (hb:Below w.heap.size w w'):slAt ok w' n v l:=h.carry hb.size (fun b hok hl=>⟨hok,hb.block b hl⟩)
theorem SetAt.below {w w':World} {b:Nat} {l:List Str} (h:SetAt w b l) (hb:Below w.heap.size w w'):SetAt w' b l:=h.block (hb.block b h.lt)
theorem Below.all {w w1 w2:World} (h:Below w.heap.size w w1) (h2:Below w1.heap.size w1 w2):Below w.heap.size w w2:=h.trans (h2.mono h.size)
theorem sl_cell {w wr:World} {g:Nat} {cs:List Value} {j:Nat} {u:Value} (hg:g<w.heap.size) (hc:∀j u,cs[j]?=some u→w.cell? ⟨g,j,none⟩=some u) (hb:Below w.heap.size w wr) (hj:cs[j]?=some u):wr.cell? ⟨g,j,none⟩=some u:=(hb.cell (p:=⟨g,j,none⟩) hg).trans (hc j u hj)
structure RowRelD (w:World) (ok:Nat→Prop) (e:PredP.Rows) (f:Str→Bool) (cs:List Value) (k:Nat) (e':PredP.Rows) (wr:World):Prop where
 rows:rowsAt ok w e' (cs.drop (k * 2))
 der:PredP.derE true f e=PredP.derE true f e'
 size:SizeOf.sizeOf e'≤SizeOf.sizeOf e
 below:Below w.heap.size w wr
structure PartRelD (w:World) (ok:Nat→Prop) (ps:PredP.Parts) (f:Str→Bool) (us:List Value) (j:Nat) (a:Bool) (ps':PredP.Parts) (wr:World):Prop where
 parts:partsAt ok w ps' (us.drop j)
 der:PredP.derR true f ps=(a&&PredP.derR true f ps')
 size:SizeOf.sizeOf ps'≤SizeOf.sizeOf ps
 below:Below w.heap.size w wr
theorem holdsD (e:PredP.Rows) (IH:Hid (∀p:PredP.Part,SizeOf.sizeOf p<SizeOf.sizeOf e→DerP 110 true p)):DerE 110 true e:=by
 intro ok w v cs kb l hsl hrows hset
 rcases hsl with ⟨rfl,rfl⟩ | ⟨g,n,cap,rfl,hn,hok,hg,hcs,hcell⟩
 ·have he:e=.nil:=rowsAt.done (k:=0) (n:=0) (cs:=[]) hrows (by omega) rfl
  subst he
  have HD:Hid (PredP.derE true l.contains .nil=false):=by unfold PredP.derE;rfl
  clear IH hrows
  go_enter Tryz.func112,Tryz.ntmps112
  go_wp2_with fail
  refine wp_loop_rounds 1 ?_
  rw[rounds_succ]
  go_wp2_with fail
  go_ret
  exact⟨ret_bool HD.out.symm,Below.refl _ _⟩
 ·have HC:=hide hcell
  have HS:=hide hset
  have hkb:=hset.lt
  clear hcell hset
  have hrel0:RowRelD w ok e l.contains cs 0 e w:=⟨by simpa using hrows,rfl,Nat.le_refl _,Below.refl _ _⟩
  clear hrows
  unfold maxLen at hn
  go_enter Tryz.func112,Tryz.ntmps112
  go_wp2_with fail
  go_loopw [14] (fun t wr=>∃k:Nat,∃e',k≤n∧t=.int .i64 k∧RowRelD w ok e l.contains cs k e' wr) (fun t _=>n - (intOf t).toNat)
  case atStart=>exact⟨0,e,by omega,rfl,hrel0⟩
  case round =>
   clear hrel0
   obtain⟨k,e',hk,rfl,hR⟩:=hrel
   by_cases hlt:k<n
   ·obtain⟨bar,r,e2,u,us,he,hc0,hc1,hu,hps,hrest⟩:=hR.rows.at hlt hcs
    have k0:=sl_cell hg HC.out hR.below hc0
    have k1:=sl_cell hg HC.out hR.below hc1
    have HE:=hide he
    have hsz:SizeOf.sizeOf r<SizeOf.sizeOf e:=by have:=hR.size;rw[he]at this;simp at this;omega
    clear hc0 hc1 he
    rcases hu with ⟨rfl,rfl⟩ | ⟨g1,n1,cap1,rfl,hn1,hok1,hg1,hus,hcell1⟩
    ·have hr0:r=.nil:=partsAt.done (k:=0) (n:=0) (cs:=[]) hps (by omega) rfl
     have HD:Hid (PredP.derE true l.contains e=true):=by
      show _=_
      rw[hR.der,HE.out,hr0];simp[PredP.derE,PredP.derR]
     clear hps
     go_wp2_with fail
     refine wp_loop_rounds 1 ?_
     rw[rounds_succ]
     go_wp2_with fail
     go_ret
     exact⟨ret_bool HD.out.symm,hR.below.alloc (Nat.le_trans (Nat.le_refl _) hR.below.size) _⟩
    ·have HC1:=hide hcell1
     clear hcell1
     unfold maxLen at hn1
     go_wp2_with fail
     go_loopw [9,21] (fun q t wi=>∃j:Nat,∃a ps',j≤n1∧t=.int .i64 j∧q=.bool a∧PartRelD w ok r l.contains us j a ps' wi) (fun _ t _=>n1 - (intOf t).toNat)
     case atStart=>exact⟨0,true,r,by omega,rfl,rfl,⟨by simpa using hps,rfl,Nat.le_refl _,hR.below.alloc hR.below.size _⟩⟩
     case round =>
      obtain⟨j,a,ps',hj,rfl,rfl,hP⟩:=hrel
      by_cases hlt1:j<n1
      ·obtain⟨p,ps2,v,hp,hv,hpv,hprest⟩:=hP.parts.at hlt1 hus
       have kv:=sl_cell hg1 HC1.out hP.below hv
       have HP:=hide hp
       have hszp:SizeOf.sizeOf p<SizeOf.sizeOf e:=by have:=hP.size;rw[hp]at this;simp at this;omega
       have hszs:SizeOf.sizeOf ps2≤SizeOf.sizeOf r:=by have:=hP.size;rw[hp]at this;simp at this;omega
       clear hv hp
       obtain⟨T,bp,rfl⟩:=hpv.iface
       cases a
       ·go_wp2_with fail
        exact⟨⟨j+1,false,ps2,by omega,by go_num,rfl,⟨hprest,by rw[hP.der];simp,hszs,hP.below⟩⟩,by simp[intOf];omega⟩
       ·have HCall:=hide (IH.out p hszp ok _ _ kb l (hpv.below hP.below) (HS.out.below hP.below))
        go_wp2_with (go_at_call 110;refine HCall.out.mono ?_;rintro e w1 ⟨rfl,hb1⟩)
        exact⟨⟨j+1,_,ps2,by omega,by go_num,rfl,⟨hprest,by rw[hP.der,HP.out];simp[PredP.derR],hszs,Below.all hP.below hb1⟩⟩,by simp[intOf];omega⟩
      ·have hp0:ps'=.nil:=hP.parts.done hlt1 hus
       have hda:=hP.der
       rw[hp0]at hda
       cases a
       ·have hder2:PredP.derE true l.contains e=PredP.derE true l.contains e2:=by rw[hR.der,HE.out];simp[PredP.derE,hda]
        have HD:=hide hder2
        clear hda hder2
        go_wp2_with fail
        exact⟨⟨k+1,e2,by omega,by go_num,⟨hrest,HD.out,by have:=hR.size;rw[HE.out]at this;simp at this;omega,hP.below⟩⟩,by simp[intOf];omega⟩
       ·have hder2:PredP.derE true l.contains e=true:=by rw[hR.der,HE.out];simp[PredP.derE,PredP.derR,hda]
        have HD:=hide hder2
        clear hda hder2
        go_wp2_with fail
        go_ret
        exact⟨ret_bool HD.out.symm,hP.below⟩
   ·have he0:e'=.nil:=hR.rows.done hlt hcs
    have hder2:PredP.derE true l.contains e=false:=by rw[hR.der,he0];simp[PredP.derE]
    have HD:=hide hder2
    clear hder2 he0
    go_wp2_with fail
    go_ret
    exact⟨ret_bool HD.out.symm,hR.below⟩
end
section
open Go.RowKit Go.Maps
structure RowRelN (w:World) (ok:Nat→Prop) (e:PredP.Rows) (f:Str→Bool) (cs:List Value) (k:Nat) (e':PredP.Rows) (wr:World):Prop where
 rows:rowsAt ok w e' (cs.drop (k * 2))
 der:PredP.derE false f e=PredP.derE false f e'
 size:SizeOf.sizeOf e'≤SizeOf.sizeOf e
 below:Below w.heap.size w wr
structure PartRelN (w:World) (ok:Nat→Prop) (ps:PredP.Parts) (f:Str→Bool) (us:List Value) (j:Nat) (a:Bool) (ps':PredP.Parts) (wr:World):Prop where
 parts:partsAt ok w ps' (us.drop j)
 der:PredP.derR false f ps=(a&&PredP.derR false f ps')
 size:SizeOf.sizeOf ps'≤SizeOf.sizeOf ps
 below:Below w.heap.size w wr
theorem holdsN (e:PredP.Rows) (IH:Hid (∀p:PredP.Part,SizeOf.sizeOf p<SizeOf.sizeOf e→DerP 74 false p)):DerE 74 false e:=by
 intro ok w v cs kb l hsl hrows hset
 rcases hsl with ⟨rfl,rfl⟩ | ⟨g,n,cap,rfl,hn,hok,hg,hcs,hcell⟩
 ·have he:e=.nil:=rowsAt.done (k:=0) (n:=0) (cs:=[]) hrows (by omega) rfl
  subst he
  have HD:Hid (PredP.derE false l.contains .nil=false):=by unfold PredP.derE;rfl
  clear IH hrows
  go_enter Tryz.func112,Tryz.ntmps112
  go_wp2_with fail
  refine wp_loop_rounds 1 ?_
  rw[rounds_succ]
  go_wp2_with fail
  go_ret
  exact⟨ret_bool HD.out.symm,Below.refl _ _⟩
 ·have HC:=hide hcell
  have HS:=hide hset
  have hkb:=hset.lt
  clear hcell hset
  have hrel0:RowRelN w ok e l.contains cs 0 e w:=⟨by simpa using hrows,rfl,Nat.le_refl _,Below.refl _ _⟩
  clear hrows
  unfold maxLen at hn
  go_enter Tryz.func112,Tryz.ntmps112
  go_wp2_with fail
  go_loopw [14] (fun t wr=>∃k:Nat,∃e',k≤n∧t=.int .i64 k∧RowRelN w ok e l.contains cs k e' wr) (fun t _=>n - (intOf t).toNat)
  case atStart=>exact⟨0,e,by omega,rfl,hrel0⟩
  case round =>
   clear hrel0
   obtain⟨k,e',hk,rfl,hR⟩:=hrel
   by_cases hlt:k<n
   ·obtain⟨bar,r,e2,u,us,he,hc0,hc1,hu,hps,hrest⟩:=hR.rows.at hlt hcs
    have k0:=sl_cell hg HC.out hR.below hc0
    have k1:=sl_cell hg HC.out hR.below hc1
    have HE:=hide he
    have hsz:SizeOf.sizeOf r<SizeOf.sizeOf e:=by have:=hR.size;rw[he]at this;simp at this;omega
    clear hc0 hc1 he
    rcases hu with ⟨rfl,rfl⟩ | ⟨g1,n1,cap1,rfl,hn1,hok1,hg1,hus,hcell1⟩
    ·have hr0:r=.nil:=partsAt.done (k:=0) (n:=0) (cs:=[]) hps (by omega) rfl
     have HD:Hid (PredP.derE false l.contains e=true):=by
      show _=_
      rw[hR.der,HE.out,hr0];simp[PredP.derE,PredP.derR]
     clear hps
     go_wp2_with fail
     refine wp_loop_rounds 1 ?_
     rw[rounds_succ]
     go_wp2_with fail
     go_ret
     exact⟨ret_bool HD.out.symm,hR.below.alloc (Nat.le_trans (Nat.le_refl _) hR.below.size) _⟩
    ·have HC1:=hide hcell1
     clear hcell1
     unfold maxLen at hn1
     go_wp2_with fail
     go_loopw [9,21] (fun q t wi=>∃j:Nat,∃a ps',j≤n1∧t=.int .i64 j∧q=.bool a∧PartRelN w ok r l.contains us j a ps' wi) (fun _ t _=>n1 - (intOf t).toNat)
     case atStart=>exact⟨0,true,r,by omega,rfl,rfl,⟨by simpa using hps,rfl,Nat.le_refl _,hR.below.alloc hR.below.size _⟩⟩
     case round =>
      obtain⟨j,a,ps',hj,rfl,rfl,hP⟩:=hrel
      by_cases hlt1:j<n1
      ·obtain⟨p,ps2,v,hp,hv,hpv,hprest⟩:=hP.parts.at hlt1 hus
       have kv:=sl_cell hg1 HC1.out hP.below hv
       have HP:=hide hp
       have hszp:SizeOf.sizeOf p<SizeOf.sizeOf e:=by have:=hP.size;rw[hp]at this;simp at this;omega
       have hszs:SizeOf.sizeOf ps2≤SizeOf.sizeOf r:=by have:=hP.size;rw[hp]at this;simp at this;omega
       clear hv hp
       obtain⟨T,bp,rfl⟩:=hpv.iface
       cases a
       ·go_wp2_with fail
        exact⟨⟨j+1,false,ps2,by omega,by go_num,rfl,⟨hprest,by rw[hP.der];simp,hszs,hP.below⟩⟩,by simp[intOf];omega⟩
       ·have HCall:=hide (IH.out p hszp ok _ _ kb l (hpv.below hP.below) (HS.out.below hP.below))
        go_wp2_with (go_at_call 74;refine HCall.out.mono ?_;rintro e w1 ⟨rfl,hb1⟩)
        exact⟨⟨j+1,_,ps2,by omega,by go_num,rfl,⟨hprest,by rw[hP.der,HP.out];simp[PredP.derR],hszs,Below.all hP.below hb1⟩⟩,by simp[intOf];omega⟩
      ·have hp0:ps'=.nil:=hP.parts.done hlt1 hus
       have hda:=hP.der
       rw[hp0]at hda
       cases a
       ·have hder2:PredP.derE false l.contains e=PredP.derE false l.contains e2:=by rw[hR.der,HE.out];simp[PredP.derE,hda]
        have HD:=hide hder2
        clear hda hder2
        go_wp2_with fail
        exact⟨⟨k+1,e2,by omega,by go_num,⟨hrest,HD.out,by have:=hR.size;rw[HE.out]at this;simp at this;omega,hP.below⟩⟩,by simp[intOf];omega⟩
       ·have hder2:PredP.derE false l.contains e=true:=by rw[hR.der,HE.out];simp[PredP.derE,PredP.derR,hda]
        have HD:=hide hder2
        clear hda hder2
        go_wp2_with fail
        go_ret
        exact⟨ret_bool HD.out.symm,hP.below⟩
   ·have he0:e'=.nil:=hR.rows.done hlt hcs
    have hder2:PredP.derE false l.contains e=false:=by rw[hR.der,he0];simp[PredP.derE]
    have HD:=hide hder2
    clear hder2 he0
    go_wp2_with fail
    go_ret
    exact⟨ret_bool HD.out.symm,hR.below⟩
end
section
open Go.RowKit Go.Maps
theorem canDerive_any (p:PredP.Part) (IH:Hid (∀e:PredP.Rows,SizeOf.sizeOf e<SizeOf.sizeOf p→DerE 110 true e)):DerP 110 true p:=by
 intro ok w v kb l hp hset
 cases p with
 | word s =>
  unfold partAt at hp
  obtain⟨b,a,rfl,hok,hb,c0,hs,ha,_⟩:=hp
  have HD:Hid (PredP.derP true l.contains (.word s)=true):=by unfold PredP.derP;rfl
  clear IH hset hs
  have asname:=as_word_name
  have asgroup:=as_word_group
  go_enter Tryz.func110,Tryz.ntmps110
  go_wp2_with fail
  go_ret
  exact⟨ret_bool HD.out.symm,Below.refl _ _⟩
 | name s q =>
  unfold partAt at hp
  obtain⟨b,a,rfl,hok,hb,c0,hs,ha,c1,_⟩:=hp
  have HD:Hid (PredP.derP true l.contains (.name s q)=hasS l (bs a)):=by unfold PredP.derP;rw[hs];rfl
  have HS:=hide hset
  clear IH hset hs c1
  have asname:=as_name_name
  have asgroup:=as_name_group
  go_enter Tryz.func110,Tryz.ntmps110
  go_wp2_with (go_at_call 40;refine(has_any _ kb l a (le_max ha) HS.out).mono ?_;rintro e w1 ⟨rfl,hb1⟩)
  go_ret
  exact⟨ret_bool HD.out.symm,hb1⟩
 | br k q e =>
  unfold partAt at hp
  obtain⟨b,u,cs,rfl,hok,hb,c0,c1,hsl,hrows⟩:=hp
  cases k with
  | grp =>
   have HC:=hide (IH.out e (by simp;omega) ok w u cs kb l hsl hrows hset)
   have HD:Hid (PredP.derP true l.contains (.br .grp q e)=PredP.derE true l.contains e):=by show _=_;rw[PredP.derP]
   obtain⟨ua,un,uc,rfl⟩:=hsl.form
   clear IH hset hsl hrows
   simp only[tyOf]
   have asname:=as_group_name
   have asgroup:=as_group_group
   go_enter Tryz.func110,Tryz.ntmps110
   go_wp2_with (go_at_call 112;refine HC.out.mono ?_;rintro e w1 ⟨rfl,hb1⟩)
   go_ret
   exact⟨ret_bool HD.out.symm,hb1⟩
  | opt =>
   have HD:Hid (PredP.derP true l.contains (.br .opt q e)=true):=by show _=_;rw[PredP.derP]
   clear IH hset hsl hrows
   simp only[tyOf]
   have asname:=as_option_name
   have asgroup:=as_option_group
   go_enter Tryz.func110,Tryz.ntmps110
   go_wp2_with fail
   go_ret
   exact⟨ret_bool HD.out.symm,Below.refl _ _⟩
  | loop =>
   have HD:Hid (PredP.derP true l.contains (.br .loop q e)=true):=by show _=_;rw[PredP.derP]
   clear IH hset hsl hrows
   simp only[tyOf]
   have asname:=as_loop_name
   have asgroup:=as_loop_group
   go_enter Tryz.func110,Tryz.ntmps110
   go_wp2_with fail
   go_ret
   exact⟨ret_bool HD.out.symm,Below.refl _ _⟩
theorem canBeNothing_any (p:PredP.Part) (IH:Hid (∀e:PredP.Rows,SizeOf.sizeOf e<SizeOf.sizeOf p→DerE 74 false e)):DerP 74 false p:=by
 intro ok w v kb l hp hset
 cases p with
 | word s =>
  unfold partAt at hp
  obtain⟨b,a,rfl,hok,hb,c0,hs,ha,_⟩:=hp
  have HD:Hid (PredP.derP false l.contains (.word s)=false):=by unfold PredP.derP;rfl
  clear IH hset hs
  have asword:=as_word_word
  have asname:=as_word_name
  have asgroup:=as_word_group
  go_enter Tryz.func74,Tryz.ntmps74
  go_wp2_with fail
  go_ret
  exact⟨ret_bool HD.out.symm,Below.refl _ _⟩
 | name s q =>
  unfold partAt at hp
  obtain⟨b,a,rfl,hok,hb,c0,hs,ha,c1,_⟩:=hp
  have HD:Hid (PredP.derP false l.contains (.name s q)=hasS l (bs a)):=by unfold PredP.derP;rw[hs];rfl
  have HS:=hide hset
  clear IH hset hs c1
  have asword:=as_name_word
  have asname:=as_name_name
  have asgroup:=as_name_group
  go_enter Tryz.func74,Tryz.ntmps74
  go_wp2_with (go_at_call 40;refine(has_any _ kb l a (le_max ha) HS.out).mono ?_;rintro e w1 ⟨rfl,hb1⟩)
  go_ret
  exact⟨ret_bool HD.out.symm,hb1⟩
 | br k q e =>
  unfold partAt at hp
  obtain⟨b,u,cs,rfl,hok,hb,c0,c1,hsl,hrows⟩:=hp
  cases k with
  | grp =>
   have HC:=hide (IH.out e (by simp;omega) ok w u cs kb l hsl hrows hset)
   have HD:Hid (PredP.derP false l.contains (.br .grp q e)=PredP.derE false l.contains e):=by show _=_;rw[PredP.derP]
   obtain⟨ua,un,uc,rfl⟩:=hsl.form
   clear IH hset hsl hrows
   simp only[tyOf]
   have asword:=as_group_word
   have asname:=as_group_name
   have asgroup:=as_group_group
   go_enter Tryz.func74,Tryz.ntmps74
   go_wp2_with (go_at_call 112;refine HC.out.mono ?_;rintro e w1 ⟨rfl,hb1⟩)
   go_ret
   exact⟨ret_bool HD.out.symm,hb1⟩
  | opt =>
   have HD:Hid (PredP.derP false l.contains (.br .opt q e)=true):=by show _=_;rw[PredP.derP]
   clear IH hset hsl hrows
   simp only[tyOf]
   have asword:=as_option_word
   have asname:=as_option_name
   have asgroup:=as_option_group
   go_enter Tryz.func74,Tryz.ntmps74
   go_wp2_with fail
   go_ret
   exact⟨ret_bool HD.out.symm,Below.refl _ _⟩
  | loop =>
   have HD:Hid (PredP.derP false l.contains (.br .loop q e)=true):=by show _=_;rw[PredP.derP]
   clear IH hset hsl hrows
   simp only[tyOf]
   have asword:=as_loop_word
   have asname:=as_loop_name
   have asgroup:=as_loop_group
   go_enter Tryz.func74,Tryz.ntmps74
   go_wp2_with fail
   go_ret
   exact⟨ret_bool HD.out.symm,Below.refl _ _⟩
theorem der_all (n:Nat):(∀p:PredP.Part,SizeOf.sizeOf p≤n→DerP 110 true p)∧(∀e:PredP.Rows,SizeOf.sizeOf e≤n→DerE 110 true e):=by
 induction n using Nat.strongRecOn with
 | _ n ih =>
  have hp:∀p:PredP.Part,SizeOf.sizeOf p≤n→DerP 110 true p:=fun p hp=>canDerive_any p fun e he=>(ih (SizeOf.sizeOf e) (by omega)).2 e (Nat.le_refl _)
  exact⟨hp,fun e he=>holdsD e fun p hp'=>hp p (by omega)⟩
theorem nul_all (n:Nat):(∀p:PredP.Part,SizeOf.sizeOf p≤n→DerP 74 false p)∧(∀e:PredP.Rows,SizeOf.sizeOf e≤n→DerE 74 false e):=by
 induction n using Nat.strongRecOn with
 | _ n ih =>
  have hp:∀p:PredP.Part,SizeOf.sizeOf p≤n→DerP 74 false p:=fun p hp=>canBeNothing_any p fun e he=>(ih (SizeOf.sizeOf e) (by omega)).2 e (Nat.le_refl _)
  exact⟨hp,fun e he=>holdsN e fun p hp'=>hp p (by omega)⟩
end
end Go.Proofs.YtpcmemcanpgadaaGreatDoor
