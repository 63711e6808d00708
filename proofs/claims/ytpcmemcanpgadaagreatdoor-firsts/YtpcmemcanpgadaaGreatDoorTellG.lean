import Derived.Test.YtpcmemcanpgadaaGreatDoorAstG
import Derived.Test.YtpcmemcanpgadaaGreatDoorPureR
import Derived.Test.YtpcmemcanpgadaaGreatDoorPureA
import Derived.CallsIn
import Derived.WalkKit
set_option maxHeartbeats 400000
namespace Go.Proofs.YtpcmemcanpgadaaGreatDoor
open PredP (hide Str Rule bs)
section
open Go.RowKit
mutual
def tellsP (ok:Nat→Prop) (w:World):PredP.Part→Value→List (PredP.Part×Value)→Prop
 | .word s,v,xs=>xs=[(.word s,v)]
 | .name s p,v,xs=>xs=[(.name s p,v)]
 | .br k p e,v,xs=>∃b u cs ys,v=.iface (tyOf k) (.pointer (some ⟨b,0,none⟩))∧w.cell? ⟨b,1,none⟩=some u∧slAt ok w 2 u cs∧xs=(.br k p e,v)::ys∧tellsE ok w e cs ys
def tellsR (ok:Nat→Prop) (w:World):PredP.Parts→List Value→List (PredP.Part×Value)→Prop
 | .nil,l,xs=>l=[]∧xs=[]
 | .cons p ps,l,xs=>∃v l' ys zs,l=v::l'∧partAt ok w p v∧xs=ys++zs∧tellsP ok w p v ys∧tellsR ok w ps l' zs
def tellsE (ok:Nat→Prop) (w:World):PredP.Rows→List Value→List (PredP.Part×Value)→Prop
 | .nil,l,xs=>l=[]∧xs=[]
 | .cons bar r e,l,xs=>∃u us l' ys zs,l=.int .i64 (bar:Int)::u::l'∧slAt ok w 1 u us∧xs=ys++zs∧tellsR ok w r us ys∧tellsE ok w e l' zs
end
mutual
def allP:PredP.Part→List PredP.Part
 | .word s=>[.word s]
 | .name s p=>[.name s p]
 | .br k p e=>.br k p e::allE e
def allR:PredP.Parts→List PredP.Part
 | .nil=>[]
 | .cons p ps=>allP p++allR ps
def allE:PredP.Rows→List PredP.Part
 | .nil=>[]
 | .cons _ r e=>allR r++allE e
end
def Told (ok:Nat→Prop) (w:World) (ps:List PredP.Part) (xs:List (PredP.Part×Value)):Prop:=xs.map (·.1)=ps∧∀x∈xs,partAt ok w x.1 x.2
theorem Told.append {ok:Nat→Prop} {w:World} {ps qs:List PredP.Part} {xs ys:List (PredP.Part×Value)} (h:Told ok w ps xs) (k:Told ok w qs ys):Told ok w (ps++qs) (xs++ys) :=
 ⟨by rw[List.map_append,h.1,k.1],fun x hx=>(List.mem_append.1 hx).elim (h.2 x) (k.2 x)⟩
mutual
theorem tellsP.there {ok:Nat→Prop} {w:World}:∀(p:PredP.Part) (v:Value),partAt ok w p v→∃xs,tellsP ok w p v xs∧Told ok w (allP p) xs
 | .word s,v,h=>⟨[(.word s,v)],by unfold tellsP;rfl,by unfold allP;exact⟨rfl,fun x hx=>by simp at hx;subst hx;exact h⟩⟩
 | .name s p,v,h=>⟨[(.name s p,v)],by unfold tellsP;rfl,by unfold allP;exact⟨rfl,fun x hx=>by simp at hx;subst hx;exact h⟩⟩
 | .br k p e,v,h=>by
  have h':=h
  unfold partAt at h'
  obtain⟨b,u,cs,rfl,hok,hb,c0,c1,hsl,hrows⟩:=h'
  obtain⟨ys,h1,h2⟩:=tellsE.there e cs hrows
  refine⟨_,by unfold tellsP;exact⟨b,u,cs,ys,rfl,c1,hsl,rfl,h1⟩,?_⟩
  unfold allP
  refine⟨by rw[List.map_cons,h2.1],fun x hx=>?_⟩
  rcases List.mem_cons.1 hx with rfl | hx
  ·exact h
  ·exact h2.2 x hx
theorem tellsR.there {ok:Nat→Prop} {w:World}:∀(p:PredP.Parts) (l:List Value),partsAt ok w p l→∃xs,tellsR ok w p l xs∧Told ok w (allR p) xs
 | .nil,l,h=>by
  unfold partsAt at h
  exact⟨[],by unfold tellsR;exact⟨h,rfl⟩,by unfold allR;exact⟨rfl,fun x hx=>by simp at hx⟩⟩
 | .cons p ps,l,h=>by
  unfold partsAt at h
  obtain⟨v,l',rfl,a,b⟩:=h
  obtain⟨ys,h1,h2⟩:=tellsP.there p v a
  obtain⟨zs,h3,h4⟩:=tellsR.there ps l' b
  exact⟨ys++zs,by unfold tellsR;exact⟨v,l',ys,zs,rfl,a,rfl,h1,h3⟩,by unfold allR;exact h2.append h4⟩
theorem tellsE.there {ok:Nat→Prop} {w:World}:∀(p:PredP.Rows) (l:List Value),rowsAt ok w p l→∃xs,tellsE ok w p l xs∧Told ok w (allE p) xs
 | .nil,l,h=>by
  unfold rowsAt at h
  exact⟨[],by unfold tellsE;exact⟨h,rfl⟩,by unfold allE;exact⟨rfl,fun x hx=>by simp at hx⟩⟩
 | .cons bar r e,l,h=>by
  unfold rowsAt at h
  obtain⟨u,us,l',rfl,a,b,c⟩:=h
  obtain⟨ys,h1,h2⟩:=tellsR.there r us b
  obtain⟨zs,h3,h4⟩:=tellsE.there e l' c
  exact⟨ys++zs,by unfold tellsE;exact⟨u,us,l',ys,zs,rfl,a,rfl,h1,h3⟩,by unfold allE;exact h2.append h4⟩
end
def nameOf:PredP.Part→Option (Str×Nat)
 | .name s p=>some (s,p)
 | _=>none
mutual
theorem allP_names:∀p:PredP.Part,(allP p).filterMap nameOf=PredP.namesP p
 | .word s=>by unfold allP PredP.namesP;rfl
 | .name s p=>by unfold allP PredP.namesP;rfl
 | .br k p e=>by
  unfold allP PredP.namesP
  rw[List.filterMap_cons_none rfl]
  exact allE_names e
theorem allR_names:∀p:PredP.Parts,(allR p).filterMap nameOf=PredP.namesR p
 | .nil=>by unfold allR PredP.namesR;rfl
 | .cons p ps=>by unfold allR PredP.namesR;rw[List.filterMap_append,allP_names p,allR_names ps]
theorem allE_names:∀p:PredP.Rows,(allE p).filterMap nameOf=PredP.namesE p
 | .nil=>by unfold allE PredP.namesE;rfl
 | .cons b r e=>by unfold allE PredP.namesE;rw[List.filterMap_append,allR_names r,allE_names e]
end
theorem tellsE.at {ok:Nat→Prop} {w:World} {e:PredP.Rows} {cs:List Value} {xs:List (PredP.Part×Value)} {k n:Nat} (h:tellsE ok w e (cs.drop (k * 2)) xs) (hk:k<n) (hn:cs.length=n * 2) :
  ∃bar r e' u us ys zs,e=.cons bar r e'∧xs=ys++zs∧cs[k * 2]?=some (.int .i64 (bar:Int))∧cs[k * 2+1]?=some u∧slAt ok w 1 u us∧tellsR ok w r us ys∧tellsE ok w e' (cs.drop ((k+1) * 2)) zs:=by
 cases e with
 | nil =>
  unfold tellsE at h
  rw[List.drop_eq_nil_iff]at h
  omega
 | cons bar r e' =>
  unfold tellsE at h
  obtain⟨u,us,l',ys,zs,hl,h1,hx,h2,h3⟩:=h
  have e1:cs[k * 2]?=(cs.drop (k * 2))[0]?:=by rw[List.getElem?_drop];rfl
  have e2:cs[k * 2+1]?=(cs.drop (k * 2))[1]?:=by rw[List.getElem?_drop]
  have e3:cs.drop ((k+1) * 2)=l':=by
   rw[show(k+1) * 2=k * 2+2 by omega,←List.drop_drop,hl];rfl
  exact⟨bar,r,e',u,us,ys,zs,rfl,hx,by rw[e1,hl];rfl,by rw[e2,hl];rfl,h1,h2,by rw[e3];exact h3⟩
theorem tellsE.done {ok:Nat→Prop} {w:World} {e:PredP.Rows} {cs:List Value} {xs:List (PredP.Part×Value)} {k n:Nat} (h:tellsE ok w e (cs.drop (k * 2)) xs) (hk:¬k<n) (hn:cs.length=n * 2):xs=[]:=by
 rw[List.drop_eq_nil_iff.2 (by omega)]at h
 cases e with
 | nil=>unfold tellsE at h;exact h.2
 | cons bar r e' =>
  unfold tellsE at h
  obtain⟨_,_,_,_,_,hl,_⟩:=h
  simp at hl
theorem tellsR.at {ok:Nat→Prop} {w:World} {ps:PredP.Parts} {cs:List Value} {xs:List (PredP.Part×Value)} {k n:Nat} (h:tellsR ok w ps (cs.drop k) xs) (hk:k<n) (hn:cs.length=n * 1) :
  ∃p ps' v ys zs,ps=.cons p ps'∧xs=ys++zs∧cs[k]?=some v∧partAt ok w p v∧tellsP ok w p v ys∧tellsR ok w ps' (cs.drop (k+1)) zs:=by
 cases ps with
 | nil =>
  unfold tellsR at h
  rw[List.drop_eq_nil_iff]at h
  omega
 | cons p ps' =>
  unfold tellsR at h
  obtain⟨v,l',ys,zs,hl,h0,hx,h1,h2⟩:=h
  have e1:cs[k]?=(cs.drop k)[0]?:=by rw[List.getElem?_drop];rfl
  have e3:cs.drop (k+1)=l':=by rw[←List.drop_drop,hl];rfl
  exact⟨p,ps',v,ys,zs,rfl,hx,by rw[e1,hl];rfl,h0,h1,by rw[e3];exact h2⟩
theorem tellsR.done {ok:Nat→Prop} {w:World} {ps:PredP.Parts} {cs:List Value} {xs:List (PredP.Part×Value)} {k n:Nat} (h:tellsR ok w ps (cs.drop k) xs) (hk:¬k<n) (hn:cs.length=n * 1):xs=[]:=by
 rw[List.drop_eq_nil_iff.2 (by omega)]at h
 cases ps with
 | nil=>unfold tellsR at h;exact h.2
 | cons p ps' =>
  unfold tellsR at h
  obtain⟨_,_,_,_,hl,_⟩:=h
  simp at hl
end
section
open Go.RowKit
theorem load_bracket (b:Nat) (w:World) (p:Int) (a:Option Addr) (n c:Nat) (h0:w.cell? ⟨b,0,none⟩=some (.int .i64 p)) (h1:w.cell? ⟨b,1,none⟩=some (.slice a n c)) :
  (loadVar 221 ⟨b,0,none⟩).run Tryz.prog w=.ok (.agg #[.int .i64 p,.slice a n c]) w:=by
 simp[loadVar,go_sem,h0,h1]
theorem isOpt (k b:Nat) (w:World) (nm:String) (h:nm=wnm) (p:Int) (a:Option Addr) (n c:Nat) (h0:w.cell? ⟨b,0,none⟩=some (.int .i64 p)) (h1:w.cell? ⟨b,1,none⟩=some (.slice a n c)) :
  (Go.method (k+1) 266 (.pointer (some ⟨b,0,none⟩)) nm).run Tryz.prog w=.ok (202,.agg #[.int .i64 p,.slice a n c]) w:=by
 rw[withinOpt k b w nm h,load_bracket b w p a n c h0 h1];rfl
theorem isLoop (k b:Nat) (w:World) (nm:String) (h:nm=wnm) (p:Int) (a:Option Addr) (n c:Nat) (h0:w.cell? ⟨b,0,none⟩=some (.int .i64 p)) (h1:w.cell? ⟨b,1,none⟩=some (.slice a n c)) :
  (Go.method (k+1) 249 (.pointer (some ⟨b,0,none⟩)) nm).run Tryz.prog w=.ok (202,.agg #[.int .i64 p,.slice a n c]) w:=by
 rw[withinLoop k b w nm h,load_bracket b w p a n c h0 h1];rfl
theorem isGrp (k b:Nat) (w:World) (nm:String) (h:nm=wnm) (p:Int) (a:Option Addr) (n c:Nat) (h0:w.cell? ⟨b,0,none⟩=some (.int .i64 p)) (h1:w.cell? ⟨b,1,none⟩=some (.slice a n c)) :
  (Go.method (k+1) 219 (.pointer (some ⟨b,0,none⟩)) nm).run Tryz.prog w=.ok (202,.agg #[.int .i64 p,.slice a n c]) w:=by
 rw[withinGrp k b w nm h,load_bracket b w p a n c h0 h1];rfl
theorem m_word (b k:Nat) (w:World) (nm:String) (h:nm=wnm) (hsh:w.shape? b=some (260,k)):(Go.method 434 218 (.pointer (some ⟨b,0,none⟩)) nm).run Tryz.prog w=.ok (201,.agg #[]) w:=withinWord 433 b k w nm h hsh
theorem m_name (b k:Nat) (w:World) (nm:String) (h:nm=wnm) (hsh:w.shape? b=some (213,k)):(Go.method 434 210 (.pointer (some ⟨b,0,none⟩)) nm).run Tryz.prog w=.ok (201,.agg #[]) w:=withinName 433 b k w nm h hsh
theorem m_opt (b:Nat) (w:World) (nm:String) (h:nm=wnm) (p:Int) (a:Option Addr) (n c:Nat) (h0:w.cell? ⟨b,0,none⟩=some (.int .i64 p)) (h1:w.cell? ⟨b,1,none⟩=some (.slice a n c)) :
  (Go.method 434 266 (.pointer (some ⟨b,0,none⟩)) nm).run Tryz.prog w=.ok (202,.agg #[.int .i64 p,.slice a n c]) w:=isOpt 433 b w nm h p a n c h0 h1
theorem m_loop (b:Nat) (w:World) (nm:String) (h:nm=wnm) (p:Int) (a:Option Addr) (n c:Nat) (h0:w.cell? ⟨b,0,none⟩=some (.int .i64 p)) (h1:w.cell? ⟨b,1,none⟩=some (.slice a n c)) :
  (Go.method 434 249 (.pointer (some ⟨b,0,none⟩)) nm).run Tryz.prog w=.ok (202,.agg #[.int .i64 p,.slice a n c]) w:=isLoop 433 b w nm h p a n c h0 h1
theorem m_grp (b:Nat) (w:World) (nm:String) (h:nm=wnm) (p:Int) (a:Option Addr) (n c:Nat) (h0:w.cell? ⟨b,0,none⟩=some (.int .i64 p)) (h1:w.cell? ⟨b,1,none⟩=some (.slice a n c)) :
  (Go.method 434 219 (.pointer (some ⟨b,0,none⟩)) nm).run Tryz.prog w=.ok (202,.agg #[.int .i64 p,.slice a n c]) w:=isGrp 433 b w nm h p a n c h0 h1
theorem single_within (w:World):Calls Tryz.prog 201 #[.agg #[]] w fun e w'=>e=.returned (.slice none 0 0)∧Below w.heap.size w w':=by
 go_enter Tryz.func201,Tryz.ntmps201
 go_wp2_with fail
 go_ret
 exact⟨rfl,(Below.refl _ _).alloc (Nat.le_refl _) _⟩
theorem bracket_within (w:World) (p:Int) (a:Option Addr) (n c:Nat):Calls Tryz.prog 202 #[.agg #[.int .i64 p,.slice a n c]] w fun e w'=>e=.returned (.slice a n c)∧Below w.heap.size w w':=by
 go_enter Tryz.func202,Tryz.ntmps202
 go_wp2_with fail
 go_ret
 exact⟨rfl,(Below.refl _ _).alloc (Nat.le_refl _) _⟩
end
end Go.Proofs.YtpcmemcanpgadaaGreatDoor
