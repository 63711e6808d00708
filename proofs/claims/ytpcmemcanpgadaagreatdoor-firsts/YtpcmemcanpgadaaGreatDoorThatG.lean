import Derived.Test.YtpcmemcanpgadaaGreatDoorSetsG
import Derived.Test.YtpcmemcanpgadaaGreatDoorPureA
set_option maxHeartbeats 2000000
set_option maxRecDepth 100000
namespace Go.Proofs.YtpcmemcanpgadaaGreatDoor
open PredP (hide Str Rule bs)
section
open Go.RowKit Go.Maps
def SetPost (w:World) (f:Str→Bool) (e:Ending) (w':World):Prop:=∃kb l,e=.returned (.map (some kb))∧w.heap.size≤kb∧SetAt w' kb l∧(∀x,l.contains x=f x)∧Below w.heap.size w w'
theorem rulesAt.length {ok:Nat→Prop} {w:World}:∀{G:List Rule} {cs:List Value},rulesAt ok w G cs→cs.length=G.length * 3
 | [],_,h=>by cases h;rfl
 | q::G,_,h=>by
  obtain⟨a,v,us,l',rfl,_,_,_,_,h5⟩:=h
  have:=rulesAt.length h5
  simp;omega
theorem rulesAt.get {ok:Nat→Prop} {w:World}:∀{G:List Rule} {cs:List Value} {k:Nat} {q:Rule},rulesAt ok w G cs→G[k]?=some q →
  ∃a v us,cs[k * 3]?=some (.string a)∧cs[k * 3+1]?=some (.int .i64 (q.pos:Int))∧cs[k * 3+2]?=some v∧bs a=q.name∧a.size≤400∧slAt ok w 2 v us∧rowsAt ok w q.body us
 | [],_,_,_,_,hk=>by simp at hk
 | p::G,_,0,q,h,hk=>by
  obtain⟨a,v,us,l',rfl,h1,h2,h3,h4,h5⟩:=h
  simp at hk
  subst hk
  exact⟨a,v,us,rfl,rfl,rfl,h1,h2,h3,h4⟩
 | p::G,_,k+1,q,h,hk=>by
  obtain⟨a,v,us,l',rfl,h1,h2,h3,h4,h5⟩:=h
  obtain⟨a',v',us',e1,e2,e3,r⟩:=rulesAt.get (k:=k) (q:=q) h5 (by simpa using hk)
  refine⟨a',v',us',?_,?_,?_,r⟩
  ·rw[show(k+1) * 3=k * 3+3 by omega];simpa using e1
  ·rw[show(k+1) * 3+1=k * 3+1+3 by omega];simpa using e2
  ·rw[show(k+1) * 3+2=k * 3+2+3 by omega];simpa using e3
theorem rulesAt.below {ok:Nat→Prop} {w w':World} {p:List Rule} {v:List Value} (h:rulesAt ok w p v) (hb:Below w.heap.size w w'):rulesAt ok w' p v:=rulesAt.carry hb.size (fun b hok hl=>⟨hok,hb.block b hl⟩) p v h
theorem rules_slice {ok:Nat→Prop} {w:World} {v:Value} {cs:List Value} {G:List Rule} (h:slAt ok w 3 v cs) (hr:rulesAt ok w G cs) (hG:G≠[]) :
  ∃g cap,v=.slice (some ⟨g,0,none⟩) G.length cap∧G.length≤maxLen∧g<w.heap.size∧∀j u,cs[j]?=some u→w.cell? ⟨g,j,none⟩=some u:=by
 have hl:=hr.length
 rcases h with ⟨rfl,rfl⟩ | ⟨g,n,cap,rfl,hm,_,hg,hcs,hc⟩
 ·simp at hl
  exact absurd (List.eq_nil_of_length_eq_zero (by omega)) hG
 ·have e:n=G.length:=by omega
  subst e
  exact⟨g,cap,rfl,Nat.le_trans hm (Nat.min_le_right _ _),hg,hc⟩
structure ThatD (w:World) (G:List Rule) (kb:Nat) (bf:Int) (cur:List Str) (wr:World):Prop where
 low:-1≤bf
 le:bf≤cur.length
 set:SetAt wr kb cur
 sound:PredP.Sound true G cur
 closed:bf=cur.length→PredP.ClosedBy true G cur
 below:Below w.heap.size w wr
 nodup:cur.Nodup
structure SweepD (w:World) (G:List Rule) (kb:Nat) (c0:List Str) (k:Nat) (cur:List Str) (wr:World):Prop where
 set:SetAt wr kb cur
 sound:PredP.Sound true G cur
 grown:(cur=c0∧∀q,q∈G.take k→PredP.derE true cur.contains q.body=true→cur.contains q.name=true)∨c0.length<cur.length
 below:Below w.heap.size w wr
 nodup:cur.Nodup
theorem SweepD.stay {w:World} {G:List Rule} {kb:Nat} {c0:List Str} {k:Nat} {cur:List Str} {wr w1:World} (h:SweepD w G kb c0 k cur wr) {q:Rule} (hq:G[k]?=some q) (hd:PredP.derE true cur.contains q.body=false) (hb:Below wr.heap.size wr w1):SweepD w G kb c0 (k+1) cur w1:=by
 refine⟨h.set.below hb,h.sound,?_,Below.all h.below hb,h.nodup⟩
 rcases h.grown with ⟨rfl,g⟩ | g
 ·refine .inl ⟨rfl,fun p hp hdp=>?_⟩
  rw[List.take_add_one,hq]at hp
  simp at hp
  rcases hp with hp | rfl
  ·exact g p hp hdp
  ·rw[hd]at hdp;cases hdp
 ·exact .inr g
theorem SweepD.add {w:World} {G:List Rule} {kb:Nat} {c0:List Str} {k:Nat} {cur:List Str} {wr w1 w2:World} (h:SweepD w G kb c0 k cur wr) {q:Rule} (hq:G[k]?=some q) (hd:PredP.derE true cur.contains q.body=true) (hkb:w.heap.size≤kb) (hb:Below wr.heap.size wr w1) (hg:w1.grownBy w2 (some kb)) {a:ByteArray} (ha:bs a=q.name) (hs:SetAt w2 kb (ins (bs a) cur)):SweepD w G kb c0 (k+1) (ins (bs a) cur) w2:=by
 have hmem:q∈G:=List.mem_of_getElem? hq
 have hin:=h.sound.add hmem hd
 refine⟨hs,?_,?_,(Below.all h.below hb).grown hg (Below.all h.below hb).size (fun j e=>by cases e;exact hkb),ins_nodup h.nodup⟩
 ·intro x hx
  rw[ins_contains,Bool.or_eq_true]at hx
  rcases hx with hx | hx
  ·exact h.sound x hx
  ·rw[beq_iff_eq]at hx;rw[hx,ha];exact hin
 ·rw[ha]
  by_cases hc:cur.contains q.name=true
  ·have e:ins q.name cur=cur:=by unfold ins;rw[if_pos hc]
   rw[e]
   rcases h.grown with ⟨rfl,g⟩ | g
   ·refine .inl ⟨rfl,fun p hp hdp=>?_⟩
    rw[List.take_add_one,hq]at hp
    simp at hp
    rcases hp with hp | rfl
    ·exact g p hp hdp
    ·exact hc
   ·exact .inr g
  ·have e:(ins q.name cur).length=cur.length+1:=by unfold ins;rw[if_neg hc];rfl
   refine .inr ?_
   rw[e]
   rcases h.grown with ⟨rfl,_⟩ | g<;>omega
theorem SweepD.swept {w:World} {G:List Rule} {kb:Nat} {c0:List Str} {k:Nat} {cur:List Str} {wr:World} (h:SweepD w G kb c0 k cur wr) (hk:G.length≤k):ThatD w G kb (c0.length:Int) cur wr:=by
 refine⟨by omega,?_,h.set,h.sound,?_,h.below,h.nodup⟩
 ·rcases h.grown with ⟨rfl,_⟩ | g<;>omega
 ·intro e
  rcases h.grown with ⟨rfl,g⟩ | g
  ·rw[List.take_of_length_le hk]at g
   exact g
  ·omega
theorem rulesThatD (ok:Nat→Prop) (w:World) (v:Value) (cs:List Value) (G:List Rule) (hG:G≠[]) (hlen:G.length≤400) (hsl:slAt ok w 3 v cs) (hr:rulesAt ok w G cs) :
  Calls Tryz.prog 73 #[v,.func (.func 110) #[] #[]] w (SetPost w (PredP.that true G).contains):=by
 obtain⟨g,cap,rfl,hm,hg,hcell⟩:=rules_slice hsl hr hG
 have HC:=hide hcell
 have HR:=hide hr
 have hpos:0<G.length:=List.length_pos_iff.2 hG
 clear hcell hsl hr hG
 unfold maxLen at hm
 have hmm:=@run_makeMap Tryz.prog
 have hrel0:ThatD w G w.heap.size (-1) [] (w.alloc (.map #[] 0)):=⟨by omega,by simp,SetAt.made w,fun x hx=>by simp at hx,fun e=>by simp at e,(Below.refl _ _).alloc (Nat.le_refl _) _,by simp⟩
 go_enter Tryz.func73,Tryz.ntmps73
 go_wp2_with fail
 go_loopw [6] (fun t wr=>∃bf cur,t=.int .i64 bf∧ThatD w G w.heap.size bf cur wr) (fun t _=>((G.length:Int) - intOf t).toNat)
 case atStart=>exact⟨-1,[],rfl,hrel0⟩
 case round =>
  clear hrel0
  obtain⟨bf,cur,rfl,hT⟩:=hrel
  have hcl:=hT.sound.length hT.nodup
  have hlow:=hT.low
  have hle:=hT.le
  obtain⟨D,hown,hDn,hDh,hDz⟩:=hT.set
  clear hDn hDh
  by_cases hlt:bf<cur.length
  ·have hlt':bf<(Maps.size D:Int):=by rw[hDz];exact hlt
   go_wp2_with (at_len;refine wpList_len_own _ rfl _ 88 rfl 9 100 undSet _ w.heap.size _ D rfl hown ?_)
   have hrel1:SweepD w G w.heap.size cur 0 cur wr:=⟨hT.set,hT.sound,.inl ⟨rfl,fun q hq=>by simp at hq⟩,hT.below,hT.nodup⟩
   have HT:=hide hT
   clear hT hown
   go_loopw [18] (fun t wr=>∃k:Nat,∃cur',k≤G.length∧t=.int .i64 k∧SweepD w G w.heap.size cur k cur' wr) (fun t _=>G.length - (intOf t).toNat)
   case atStart=>exact⟨0,cur,by omega,rfl,hrel1⟩
   case round =>
    clear hrel1
    obtain⟨k,cur',hk,rfl,hS⟩:=hrel
    by_cases hk':k<G.length
    ·obtain⟨q,hq⟩:∃q,G[k]?=some q:=⟨G[k],List.getElem?_eq_getElem hk'⟩
     obtain⟨a,u,us,e0,e1,e2,hnm,ha,hu,hrows⟩:=HR.out.get hq
     have k0:=sl_cell hg HC.out hS.below e0
     have k1:=sl_cell hg HC.out hS.below e1
     have k2:=sl_cell hg HC.out hS.below e2
     have HN:=hide hnm
     have HQ:=hide hq
     clear hnm hq e0 e1 e2
     have hcl':=hS.sound.length hS.nodup
     have hb0:∀o,Below wr.heap.size wr (wr.alloc o):=fun o=>(Below.refl _ _).alloc (Nat.le_refl _) o
     obtain⟨ua,un,uc,rfl⟩:=hu.form
     have hc':∀o,Calls Tryz.prog 112 #[.slice ua un uc,.map (some w.heap.size),.func (.func 110) #[] #[]] (wr.alloc o) (fun e' w'=>e'=.returned (.bool (PredP.derE true cur'.contains q.body))∧Below (wr.alloc o).heap.size (wr.alloc o) w'):=fun o=>(der_all (SizeOf.sizeOf q.body)).2 q.body (Nat.le_refl _) ok _ _ us w.heap.size cur' (hu.below (Below.all hS.below (hb0 o))) (hrows.below (Below.all hS.below (hb0 o))) (hS.set.below (hb0 o))
     have HCall:=hide hc'
     clear hc'
     cases hder:PredP.derE true cur'.contains q.body
     ·rw[hder]at HCall
      have HDer:=hide hder
      clear hder
      go_wp2_with (go_at_call 112;refine(HCall.out _).mono ?_;rintro e w1 ⟨rfl,hb1⟩)
      exact⟨⟨k+1,cur',by omega,by go_num,hS.stay HQ.out HDer.out (Below.all (hb0 _) hb1)⟩,by simp[intOf];omega⟩
     ·rw[hder]at HCall
      have HDer:=hide hder
      clear hder
      go_wp2_with (first
       | (go_at_call 112;refine(HCall.out _).mono ?_;rintro e w1 ⟨rfl,hb1⟩;have hb2:=Below.all (hb0 _) hb1;have hs1:=hS.set.below hb2;have hc1:=(hb1.cell (p:=⟨_,0,none⟩) (by simp)).trans (cell_fresh rfl))
       | (go_at_call 41;refine(add_any _ w.heap.size cur' a (le_max ha) (by unfold maxLen;omega) hs1).mono ?_;rintro e w2 ⟨rfl,hg2,hset2⟩))
      exact⟨⟨k+1,_,by omega,by go_num,hS.add HQ.out HDer.out (Nat.le_refl _) hb2 hg2 HN.out hset2⟩,by simp[intOf];omega⟩
    ·go_wp2_with fail
     exact⟨⟨_,cur',rfl,hS.swept (by omega)⟩,by simp only[intOf];omega⟩
  ·have hnl:¬bf<(Maps.size D:Int):=by rw[hDz];exact hlt
   have hdone:=hide (hT.sound.done (hT.closed (by omega)))
   go_wp2_with (at_len;refine wpList_len_own _ rfl _ 88 rfl 9 100 undSet _ w.heap.size _ D rfl hown ?_)
   go_ret
   exact⟨w.heap.size,cur,rfl,Nat.le_refl _,hT.set,hdone.out,hT.below⟩
end
section
open Go.RowKit Go.Maps
structure ThatN (w:World) (G:List Rule) (kb:Nat) (bf:Int) (cur:List Str) (wr:World):Prop where
 low:-1≤bf
 le:bf≤cur.length
 set:SetAt wr kb cur
 sound:PredP.Sound false G cur
 closed:bf=cur.length→PredP.ClosedBy false G cur
 below:Below w.heap.size w wr
 nodup:cur.Nodup
structure SweepN (w:World) (G:List Rule) (kb:Nat) (c0:List Str) (k:Nat) (cur:List Str) (wr:World):Prop where
 set:SetAt wr kb cur
 sound:PredP.Sound false G cur
 grown:(cur=c0∧∀q,q∈G.take k→PredP.derE false cur.contains q.body=true→cur.contains q.name=true)∨c0.length<cur.length
 below:Below w.heap.size w wr
 nodup:cur.Nodup
theorem SweepN.stay {w:World} {G:List Rule} {kb:Nat} {c0:List Str} {k:Nat} {cur:List Str} {wr w1:World} (h:SweepN w G kb c0 k cur wr) {q:Rule} (hq:G[k]?=some q) (hd:PredP.derE false cur.contains q.body=false) (hb:Below wr.heap.size wr w1):SweepN w G kb c0 (k+1) cur w1:=by
 refine⟨h.set.below hb,h.sound,?_,Below.all h.below hb,h.nodup⟩
 rcases h.grown with ⟨rfl,g⟩ | g
 ·refine .inl ⟨rfl,fun p hp hdp=>?_⟩
  rw[List.take_add_one,hq]at hp
  simp at hp
  rcases hp with hp | rfl
  ·exact g p hp hdp
  ·rw[hd]at hdp;cases hdp
 ·exact .inr g
theorem SweepN.add {w:World} {G:List Rule} {kb:Nat} {c0:List Str} {k:Nat} {cur:List Str} {wr w1 w2:World} (h:SweepN w G kb c0 k cur wr) {q:Rule} (hq:G[k]?=some q) (hd:PredP.derE false cur.contains q.body=true) (hkb:w.heap.size≤kb) (hb:Below wr.heap.size wr w1) (hg:w1.grownBy w2 (some kb)) {a:ByteArray} (ha:bs a=q.name) (hs:SetAt w2 kb (ins (bs a) cur)):SweepN w G kb c0 (k+1) (ins (bs a) cur) w2:=by
 have hmem:q∈G:=List.mem_of_getElem? hq
 have hin:=h.sound.add hmem hd
 refine⟨hs,?_,?_,(Below.all h.below hb).grown hg (Below.all h.below hb).size (fun j e=>by cases e;exact hkb),ins_nodup h.nodup⟩
 ·intro x hx
  rw[ins_contains,Bool.or_eq_true]at hx
  rcases hx with hx | hx
  ·exact h.sound x hx
  ·rw[beq_iff_eq]at hx;rw[hx,ha];exact hin
 ·rw[ha]
  by_cases hc:cur.contains q.name=true
  ·have e:ins q.name cur=cur:=by unfold ins;rw[if_pos hc]
   rw[e]
   rcases h.grown with ⟨rfl,g⟩ | g
   ·refine .inl ⟨rfl,fun p hp hdp=>?_⟩
    rw[List.take_add_one,hq]at hp
    simp at hp
    rcases hp with hp | rfl
    ·exact g p hp hdp
    ·exact hc
   ·exact .inr g
  ·have e:(ins q.name cur).length=cur.length+1:=by unfold ins;rw[if_neg hc];rfl
   refine .inr ?_
   rw[e]
   rcases h.grown with ⟨rfl,_⟩ | g<;>omega
theorem SweepN.swept {w:World} {G:List Rule} {kb:Nat} {c0:List Str} {k:Nat} {cur:List Str} {wr:World} (h:SweepN w G kb c0 k cur wr) (hk:G.length≤k):ThatN w G kb (c0.length:Int) cur wr:=by
 refine⟨by omega,?_,h.set,h.sound,?_,h.below,h.nodup⟩
 ·rcases h.grown with ⟨rfl,_⟩ | g<;>omega
 ·intro e
  rcases h.grown with ⟨rfl,g⟩ | g
  ·rw[List.take_of_length_le hk]at g
   exact g
  ·omega
theorem rulesThatN (ok:Nat→Prop) (w:World) (v:Value) (cs:List Value) (G:List Rule) (hG:G≠[]) (hlen:G.length≤400) (hsl:slAt ok w 3 v cs) (hr:rulesAt ok w G cs) :
  Calls Tryz.prog 73 #[v,.func (.func 74) #[] #[]] w (SetPost w (PredP.that false G).contains):=by
 obtain⟨g,cap,rfl,hm,hg,hcell⟩:=rules_slice hsl hr hG
 have HC:=hide hcell
 have HR:=hide hr
 have hpos:0<G.length:=List.length_pos_iff.2 hG
 clear hcell hsl hr hG
 unfold maxLen at hm
 have hmm:=@run_makeMap Tryz.prog
 have hrel0:ThatN w G w.heap.size (-1) [] (w.alloc (.map #[] 0)):=⟨by omega,by simp,SetAt.made w,fun x hx=>by simp at hx,fun e=>by simp at e,(Below.refl _ _).alloc (Nat.le_refl _) _,by simp⟩
 go_enter Tryz.func73,Tryz.ntmps73
 go_wp2_with fail
 go_loopw [6] (fun t wr=>∃bf cur,t=.int .i64 bf∧ThatN w G w.heap.size bf cur wr) (fun t _=>((G.length:Int) - intOf t).toNat)
 case atStart=>exact⟨-1,[],rfl,hrel0⟩
 case round =>
  clear hrel0
  obtain⟨bf,cur,rfl,hT⟩:=hrel
  have hcl:=hT.sound.length hT.nodup
  have hlow:=hT.low
  have hle:=hT.le
  obtain⟨D,hown,hDn,hDh,hDz⟩:=hT.set
  clear hDn hDh
  by_cases hlt:bf<cur.length
  ·have hlt':bf<(Maps.size D:Int):=by rw[hDz];exact hlt
   go_wp2_with (at_len;refine wpList_len_own _ rfl _ 88 rfl 9 100 undSet _ w.heap.size _ D rfl hown ?_)
   have hrel1:SweepN w G w.heap.size cur 0 cur wr:=⟨hT.set,hT.sound,.inl ⟨rfl,fun q hq=>by simp at hq⟩,hT.below,hT.nodup⟩
   have HT:=hide hT
   clear hT hown
   go_loopw [18] (fun t wr=>∃k:Nat,∃cur',k≤G.length∧t=.int .i64 k∧SweepN w G w.heap.size cur k cur' wr) (fun t _=>G.length - (intOf t).toNat)
   case atStart=>exact⟨0,cur,by omega,rfl,hrel1⟩
   case round =>
    clear hrel1
    obtain⟨k,cur',hk,rfl,hS⟩:=hrel
    by_cases hk':k<G.length
    ·obtain⟨q,hq⟩:∃q,G[k]?=some q:=⟨G[k],List.getElem?_eq_getElem hk'⟩
     obtain⟨a,u,us,e0,e1,e2,hnm,ha,hu,hrows⟩:=HR.out.get hq
     have k0:=sl_cell hg HC.out hS.below e0
     have k1:=sl_cell hg HC.out hS.below e1
     have k2:=sl_cell hg HC.out hS.below e2
     have HN:=hide hnm
     have HQ:=hide hq
     clear hnm hq e0 e1 e2
     have hcl':=hS.sound.length hS.nodup
     have hb0:∀o,Below wr.heap.size wr (wr.alloc o):=fun o=>(Below.refl _ _).alloc (Nat.le_refl _) o
     obtain⟨ua,un,uc,rfl⟩:=hu.form
     have hc':∀o,Calls Tryz.prog 112 #[.slice ua un uc,.map (some w.heap.size),.func (.func 74) #[] #[]] (wr.alloc o) (fun e' w'=>e'=.returned (.bool (PredP.derE false cur'.contains q.body))∧Below (wr.alloc o).heap.size (wr.alloc o) w'):=fun o=>(nul_all (SizeOf.sizeOf q.body)).2 q.body (Nat.le_refl _) ok _ _ us w.heap.size cur' (hu.below (Below.all hS.below (hb0 o))) (hrows.below (Below.all hS.below (hb0 o))) (hS.set.below (hb0 o))
     have HCall:=hide hc'
     clear hc'
     cases hder:PredP.derE false cur'.contains q.body
     ·rw[hder]at HCall
      have HDer:=hide hder
      clear hder
      go_wp2_with (go_at_call 112;refine(HCall.out _).mono ?_;rintro e w1 ⟨rfl,hb1⟩)
      exact⟨⟨k+1,cur',by omega,by go_num,hS.stay HQ.out HDer.out (Below.all (hb0 _) hb1)⟩,by simp[intOf];omega⟩
     ·rw[hder]at HCall
      have HDer:=hide hder
      clear hder
      go_wp2_with (first
       | (go_at_call 112;refine(HCall.out _).mono ?_;rintro e w1 ⟨rfl,hb1⟩;have hb2:=Below.all (hb0 _) hb1;have hs1:=hS.set.below hb2;have hc1:=(hb1.cell (p:=⟨_,0,none⟩) (by simp)).trans (cell_fresh rfl))
       | (go_at_call 41;refine(add_any _ w.heap.size cur' a (le_max ha) (by unfold maxLen;omega) hs1).mono ?_;rintro e w2 ⟨rfl,hg2,hset2⟩))
      exact⟨⟨k+1,_,by omega,by go_num,hS.add HQ.out HDer.out (Nat.le_refl _) hb2 hg2 HN.out hset2⟩,by simp[intOf];omega⟩
    ·go_wp2_with fail
     exact⟨⟨_,cur',rfl,hS.swept (by omega)⟩,by simp only[intOf];omega⟩
  ·have hnl:¬bf<(Maps.size D:Int):=by rw[hDz];exact hlt
   have hdone:=hide (hT.sound.done (hT.closed (by omega)))
   go_wp2_with (at_len;refine wpList_len_own _ rfl _ 88 rfl 9 100 undSet _ w.heap.size _ D rfl hown ?_)
   go_ret
   exact⟨w.heap.size,cur,rfl,Nat.le_refl _,hT.set,hdone.out,hT.below⟩
end
section
open Go.RowKit Go.Maps
def NameErr (lo:Nat) (w:World) (v:Value) (p:Nat) (s:Str) (what:Nat):Prop :=
 ∃b a,v=.iface 104 (.pointer (some ⟨b,0,none⟩))∧lo≤b∧b<w.heap.size∧w.cell? ⟨b,0,none⟩=some (.int .i64 (p:Int))∧w.cell? ⟨b,1,none⟩=some (.string a)∧bs a=s∧a.size≤400∧w.cell? ⟨b,2,none⟩=some (.int .i64 (what:Int))
def TwicePost (w:World) (o:Option Rule) (e:Ending) (w':World):Prop :=
 Below w.heap.size w w'∧match o with
 | none=>e=.returned .nilIface
 | some r=>∃v,e=.returned v∧NameErr w.heap.size w' v r.pos r.name 1
structure TwiceRel (w:World) (G:List Rule) (kb k:Nat) (cur acc:List Str) (wr:World):Prop where
 set:SetAt wr kb cur
 mem:∀x,cur.contains x=acc.contains x
 find:PredP.findTwice [] G=PredP.findTwice acc (G.drop k)
 below:Below w.heap.size w wr
 len:cur.length≤k
theorem drop_get {α:Type} {G:List α} {k:Nat} {q:α} (h:G[k]?=some q):G.drop k=q::G.drop (k+1):=by
 obtain⟨h1,h2⟩:=List.getElem?_eq_some_iff.1 h
 rw[←h2]
 exact List.drop_eq_getElem_cons h1
theorem TwiceRel.step {w:World} {G:List Rule} {kb k:Nat} {cur acc:List Str} {wr w1 w2:World} (h:TwiceRel w G kb k cur acc wr) {q:Rule} (hq:G[k]?=some q) (hc:hasS cur q.name=false) (hkb:w.heap.size≤kb) (hb:Below wr.heap.size wr w1) (hg:w1.grownBy w2 (some kb)) {a:ByteArray} (ha:bs a=q.name) (hs:SetAt w2 kb (ins (bs a) cur)) :
  TwiceRel w G kb (k+1) (ins (bs a) cur) (q.name::acc) w2:=by
 refine⟨hs,fun x=>?_,?_,(Below.all h.below hb).grown hg (Below.all h.below hb).size (fun j e=>by cases e;exact hkb),?_⟩
 ·rw[ins_contains,h.mem,ha,List.contains_cons,Bool.or_comm]
 ·rw[h.find,drop_get hq,PredP.findTwice]
  have:acc.contains q.name=false:=by rw[←h.mem];exact hc
  rw[this];rfl
 ·have:=h.len
  unfold ins;split<;>simp<;>omega
theorem TwiceRel.found {w:World} {G:List Rule} {kb k:Nat} {cur acc:List Str} {wr:World} (h:TwiceRel w G kb k cur acc wr) {q:Rule} (hq:G[k]?=some q) (hc:hasS cur q.name=true):PredP.findTwice [] G=some q:=by
 rw[h.find,drop_get hq,PredP.findTwice]
 have:acc.contains q.name=true:=by rw[←h.mem];exact hc
 rw[this];rfl
theorem checkTwice_any (ok:Nat→Prop) (w:World) (v:Value) (cs:List Value) (G:List Rule) (hG:G≠[]) (hlen:G.length≤400) (hsl:slAt ok w 3 v cs) (hr:rulesAt ok w G cs) :
  Calls Tryz.prog 70 #[v] w (TwicePost w (PredP.findTwice [] G)):=by
 obtain⟨g,cap,rfl,hm,hg,hcell⟩:=rules_slice hsl hr hG
 have HC:=hide hcell
 have HR:=hide hr
 clear hcell hsl hr hG
 unfold maxLen at hm
 have hmm:=@run_makeMap Tryz.prog
 have hrel0:TwiceRel w G w.heap.size 0 [] [] (w.alloc (.map #[] 0)):=⟨SetAt.made w,fun x=>rfl,rfl,(Below.refl _ _).alloc (Nat.le_refl _) _,Nat.le_refl _⟩
 go_enter Tryz.func70,Tryz.ntmps70
 go_wp2_with fail
 go_loopw [9] (fun t wr=>∃k:Nat,∃cur acc,k≤G.length∧t=.int .i64 k∧TwiceRel w G w.heap.size k cur acc wr) (fun t _=>G.length - (intOf t).toNat)
 case atStart=>exact⟨0,[],[],by omega,rfl,hrel0⟩
 case round =>
  clear hrel0
  obtain⟨k,cur,acc,hk,rfl,hS⟩:=hrel
  by_cases hk':k<G.length
  ·obtain⟨q,hq⟩:∃q,G[k]?=some q:=⟨G[k],List.getElem?_eq_getElem hk'⟩
   obtain⟨a,u,us,e0,e1,e2,hnm,ha,hu,hrows⟩:=HR.out.get hq
   have k0:=sl_cell hg HC.out hS.below e0
   have k1:=sl_cell hg HC.out hS.below e1
   have k2:=sl_cell hg HC.out hS.below e2
   have HN:=hide hnm
   have HQ:=hide hq
   clear hnm hq e0 e1 e2
   have hcl:=hS.len
   have hb0:∀o,Below wr.heap.size wr (wr.alloc o):=fun o=>(Below.refl _ _).alloc (Nat.le_refl _) o
   obtain⟨ua,un,uc,rfl⟩:=hu.form
   have hs0:=fun o=>hS.set.below (hb0 o)
   have HS0:=hide hs0
   clear hs0
   cases hc:hasS cur (bs a)
   ·have HCc:Hid (hasS cur q.name=false):=by rw[←HN.out];exact hc
    go_wp2_with (first
     | (go_at_call 40;refine(has_any _ w.heap.size cur a (le_max ha) (HS0.out _)).mono ?_;rintro e w1 ⟨rfl,hb1⟩;have hb2:=Below.all (hb0 _) hb1;have hs1:=hS.set.below hb2;have hc1:=(hb1.cell (p:=⟨_,0,none⟩) (by simp)).trans (cell_fresh rfl))
     | (go_at_call 41;refine(add_any _ w.heap.size cur a (le_max ha) (by unfold maxLen;omega) hs1).mono ?_;rintro e w2 ⟨rfl,hg2,hset2⟩))
    exact⟨⟨k+1,_,_,by omega,by go_num,hS.step HQ.out HCc.out (Nat.le_refl _) hb2 hg2 HN.out hset2⟩,by simp[intOf];omega⟩
   ·have hfo:PredP.findTwice [] G=some q:=hS.found HQ.out (by rw[←HN.out];exact hc)
    have HF:=hide hfo
    clear hfo
    go_wp2_with (go_at_call 40;refine(has_any _ w.heap.size cur a (le_max ha) (HS0.out _)).mono ?_;rintro e w1 ⟨rfl,hb1⟩;have hb2:=Below.all (hb0 _) hb1;have hc0:=(hb1.cell (p:=⟨_,0,none⟩) (by simp)).trans (cell_fresh rfl);have hc1:=(hb1.cell (p:=⟨_,1,none⟩) (by simp)).trans (cell_fresh rfl))
    go_ret
    have hb3:=Below.all hS.below hb2
    refine⟨hb3.alloc hb3.size _,?_⟩
    rw[HF.out]
    exact⟨_,rfl,w1.heap.size,a,rfl,hb3.size,by simp,cell_fresh rfl,cell_fresh rfl,HN.out,ha,cell_fresh rfl⟩
  ·have hfo:PredP.findTwice [] G=none:=by
    rw[hS.find,List.drop_eq_nil_iff.2 (by omega)];rfl
   have HF:=hide hfo
   clear hfo
   go_wp2_with fail
   go_ret
   refine⟨hS.below,?_⟩
   rw[HF.out]
   exact rfl
end
end Go.Proofs.YtpcmemcanpgadaaGreatDoor
