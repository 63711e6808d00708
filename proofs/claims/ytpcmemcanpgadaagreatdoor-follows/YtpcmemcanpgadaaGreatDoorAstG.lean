import Derived.Test.YtpcmemcanpgadaaGreatDoorRdG
import Derived.Test.YtpcmemcanpgadaaGreatDoorPureA
import Derived.Test.YtpcmemcanpgadaaGreatDoorPureS
set_option maxHeartbeats 1000000
namespace Go.Proofs.YtpcmemcanpgadaaGreatDoor
open PredP (hide Str Rule bs)
section
open Go.RowKit
section
variable (ok:Nat→Prop) (w:World)
def slAt (size:Nat) (v:Value) (cs:List Value):Prop :=
 (v=.slice none 0 0∧cs=[])∨∃g n cap,v=.slice (some ⟨g,0,none⟩) n cap∧n≤min cap maxLen∧ok g∧g<w.heap.size∧cs.length=n * size∧∀j u,cs[j]?=some u→w.cell? ⟨g,j,none⟩=some u
def tyOf:PredP.Br→Nat
 | .opt=>266
 | .loop=>249
 | .grp=>219
mutual
def partAt:PredP.Part→Value→Prop
 | .word s,v=>∃b a,v=.iface 218 (.pointer (some ⟨b,0,none⟩))∧ok b∧b<w.heap.size∧w.cell? ⟨b,0,none⟩=some (.string a)∧bs a=s∧a.size≤400∧w.shape? b=some (260,1)
 | .name s p,v=>∃b a,v=.iface 210 (.pointer (some ⟨b,0,none⟩))∧ok b∧b<w.heap.size∧w.cell? ⟨b,0,none⟩=some (.string a)∧bs a=s∧a.size≤400∧w.cell? ⟨b,1,none⟩=some (.int .i64 (p:Int))∧w.shape? b=some (213,2)
 | .br k p e,v=>∃b u cs,v=.iface (tyOf k) (.pointer (some ⟨b,0,none⟩))∧ok b∧b<w.heap.size∧w.cell? ⟨b,0,none⟩=some (.int .i64 (p:Int))∧w.cell? ⟨b,1,none⟩=some u∧slAt ok w 2 u cs∧rowsAt e cs
def partsAt:PredP.Parts→List Value→Prop
 | .nil,l=>l=[]
 | .cons p ps,l=>∃v l',l=v::l'∧partAt p v∧partsAt ps l'
def rowsAt:PredP.Rows→List Value→Prop
 | .nil,l=>l=[]
 | .cons bar r e,l=>∃u cs l',l=.int .i64 (bar:Int)::u::l'∧slAt ok w 1 u cs∧partsAt r cs∧rowsAt e l'
end
end
theorem slAt.carry {ok ok':Nat→Prop} {w w':World} {size:Nat} {v:Value} {cs:List Value} (hs:w.heap.size≤w'.heap.size)
  (h:∀b,ok b→b<w.heap.size→ok' b∧w'.heap[b]?=w.heap[b]?) (x:slAt ok w size v cs):slAt ok' w' size v cs:=by
 rcases x with x | ⟨g,n,cap,rfl,hm,hok,hg,hl,hc⟩
 ·exact .inl x
 ·obtain⟨a,b⟩:=h g hok hg
  exact .inr ⟨g,n,cap,rfl,hm,a,Nat.lt_of_lt_of_le hg hs,hl,fun j u hu=>(World.cell?_of_block (a:=⟨g,j,none⟩) b).trans (hc j u hu)⟩
mutual
theorem partAt.carry {ok ok':Nat→Prop} {w w':World} (hs:w.heap.size≤w'.heap.size) (h:∀b,ok b→b<w.heap.size→ok' b∧w'.heap[b]?=w.heap[b]?):∀(p:PredP.Part) (v:Value),partAt ok w p v→partAt ok' w' p v
 | .word s,v=>by
  unfold partAt
  rintro⟨b,a,e,k,l,c,z1,z2,z3⟩
  obtain⟨k',q⟩:=h b k l
  exact⟨b,a,e,k',Nat.lt_of_lt_of_le l hs,(World.cell?_of_block (a:=⟨b,0,none⟩) q).trans c,z1,z2,by unfold World.shape? at *;rw[q];exact z3⟩
 | .name s p,v=>by
  unfold partAt
  rintro⟨b,a,e,k,l,c,z,z',y,z3⟩
  obtain⟨k',q⟩:=h b k l
  exact⟨b,a,e,k',Nat.lt_of_lt_of_le l hs,(World.cell?_of_block (a:=⟨b,0,none⟩) q).trans c,z,z',(World.cell?_of_block (a:=⟨b,1,none⟩) q).trans y,by unfold World.shape? at *;rw[q];exact z3⟩
 | .br k p e,v=>by
  unfold partAt
  rintro⟨b,u,cs,eq,k,l,c,c',sl,r⟩
  obtain⟨k',q⟩:=h b k l
  exact⟨b,u,cs,eq,k',Nat.lt_of_lt_of_le l hs,(World.cell?_of_block (a:=⟨b,0,none⟩) q).trans c,(World.cell?_of_block (a:=⟨b,1,none⟩) q).trans c',sl.carry hs h,rowsAt.carry hs h e cs r⟩
theorem partsAt.carry {ok ok':Nat→Prop} {w w':World} (hs:w.heap.size≤w'.heap.size) (h:∀b,ok b→b<w.heap.size→ok' b∧w'.heap[b]?=w.heap[b]?):∀(p:PredP.Parts) (l:List Value),partsAt ok w p l→partsAt ok' w' p l
 | .nil,l=>by unfold partsAt;exact id
 | .cons p ps,l=>by
  unfold partsAt
  rintro⟨v,l',e,a,b⟩
  exact⟨v,l',e,partAt.carry hs h p v a,partsAt.carry hs h ps l' b⟩
theorem rowsAt.carry {ok ok':Nat→Prop} {w w':World} (hs:w.heap.size≤w'.heap.size) (h:∀b,ok b→b<w.heap.size→ok' b∧w'.heap[b]?=w.heap[b]?):∀(p:PredP.Rows) (l:List Value),rowsAt ok w p l→rowsAt ok' w' p l
 | .nil,l=>by unfold rowsAt;exact id
 | .cons bar r e,l=>by
  unfold rowsAt
  rintro⟨u,cs,l',eq,a,b,c⟩
  exact⟨u,cs,l',eq,a.carry hs h,partsAt.carry hs h r cs b,rowsAt.carry hs h e l' c⟩
end
theorem partsAt.snoc {ok:Nat→Prop} {w:World} {p:PredP.Part} {v:Value} (hv:partAt ok w p v):∀(ps:PredP.Parts) (l:List Value),partsAt ok w ps l→partsAt ok w (ps.app (.cons p .nil)) (l++[v])
 | .nil,l,x=>by
  unfold partsAt at x
  subst x
  simp only[PredP.Parts.app,List.nil_append]
  unfold partsAt
  exact⟨v,[],rfl,hv,by unfold partsAt;rfl⟩
 | .cons q qs,l,x=>by
  unfold partsAt at x
  obtain⟨u,l',rfl,a,b⟩:=x
  simp only[PredP.Parts.app,List.cons_append]
  unfold partsAt
  exact⟨u,l'++[v],rfl,a,partsAt.snoc hv qs l' b⟩
theorem rowsAt.snoc {ok:Nat→Prop} {w:World} {bar:Nat} {r:PredP.Parts} {u:Value} {cs:List Value} (h1:slAt ok w 1 u cs) (h2:partsAt ok w r cs):∀(e:PredP.Rows) (l:List Value),rowsAt ok w e l→rowsAt ok w (e.app (.cons bar r .nil)) (l++[.int .i64 (bar:Int),u])
 | .nil,l,x=>by
  unfold rowsAt at x
  subst x
  simp only[PredP.Rows.app,List.nil_append]
  unfold rowsAt
  exact⟨u,cs,[],rfl,h1,h2,by unfold rowsAt;rfl⟩
 | .cons b q qs,l,x=>by
  unfold rowsAt at x
  obtain⟨u',cs',l',rfl,a,b,c⟩:=x
  simp only[PredP.Rows.app,List.cons_append]
  unfold rowsAt
  exact⟨u',cs',l'++[_,u],rfl,a,b,rowsAt.snoc h1 h2 qs l' c⟩
theorem slAt.of_owns {ok:Nat→Prop} {w:World} {base:Nat} {e:TypeId} {size:Nat} {v:Value} {n:Nat} {xs:List Value} (h:w.ownsRow base e size v n xs) (hok:∀g,v.ownBlock=some g→ok g):slAt ok w size v xs:=by
 rcases h.2 with ⟨rfl,rfl⟩ | ⟨g,cap,cur,rfl,_,hg,hn,hm,_,_⟩
 ·exact .inl ⟨rfl,List.eq_nil_of_length_eq_zero (by simpa using h.1)⟩
 ·refine .inr ⟨g,n,cap,rfl,Nat.le_min.2 ⟨hn,Nat.le_trans hn hm⟩,hok g rfl,(Array.getElem?_eq_some_iff.1 hg).1,h.1,fun j u hu=>?_⟩
  have:=h.cells (g:=g) rfl j u hu
  have hadd:(⟨g,0,none⟩:Addr).add j=⟨g,j,none⟩:=by unfold Addr.add;split<;>simp_all
  rwa[hadd]at this
theorem cell_fresh2 {w:World} {o:Obj} {cs:Array Value} {ty k:Nat} {v:Value} (h:cs[k]?=some v):((w.alloc o).alloc (.cells cs ty)).cell? ⟨w.heap.size+1,k,none⟩=some v:=by
 have:=cell_fresh (w:=w.alloc o) (ty:=ty) h
 rwa[World.size_alloc]at this
def openK:PredP.Br→Nat
 | .grp=>40
 | .opt=>91
 | .loop=>123
theorem bracketed_any (k:PredP.Br) (q:Nat) (hq:Hid (q=openK k)) (p:Nat) (a:Option Addr) (n c:Nat) (w:World) :
  Calls Tryz.prog 150 #[.int .u8 (q:Int),.agg #[.int .i64 (p:Int),.slice a n c]] w fun e w'=>∃b,e=.returned (.tuple #[.int .u8 (PredP.closing k:Int),.iface (tyOf k) (.pointer (some ⟨b,0,none⟩))]) ∧
   w.heap.size≤b∧b<w'.heap.size∧w'.cell? ⟨b,0,none⟩=some (.int .i64 (p:Int))∧w'.cell? ⟨b,1,none⟩=some (.slice a n c)∧Below w.heap.size w w':=by
 have hq':=hq.out
 clear hq
 subst hq'
 cases k
 all_goals
  simp only[openK,tyOf,PredP.closing]
  go_enter Tryz.func150,Tryz.ntmps150
  go_wp2
  go_region
  all_goals go_wp2
  all_goals go_ret2
  all_goals exact⟨w.heap.size+1,rfl,by omega,by simp,cell_fresh2 rfl,cell_fresh2 rfl,(((Below.refl _ _).alloc (Nat.le_refl _) _).alloc (by simp) _).drew⟩
end
section
open Go.RowKit
noncomputable def wnm:String:=((Tryz.prog.info? 218).bind fun i=>(i.methods[0]?).map (·.name)).getD ""
theorem rowWord:(Tryz.prog.info? 218).map (fun i=>(i.methods.find? (·.name==wnm)).map (fun m=>(m.path,m.func)))=some (some (#[⟨260,0,true⟩],some (201,false))):=by kernel_rfl
theorem rowName:(Tryz.prog.info? 210).map (fun i=>(i.methods.find? (·.name==wnm)).map (fun m=>(m.path,m.func)))=some (some (#[⟨213,0,true⟩],some (201,false))):=by kernel_rfl
theorem rowOpt:(Tryz.prog.info? 266).map (fun i=>(i.methods.find? (·.name==wnm)).map (fun m=>(m.path,m.func)))=some (some (#[⟨267,0,true⟩],some (202,false))):=by kernel_rfl
theorem rowLoop:(Tryz.prog.info? 249).map (fun i=>(i.methods.find? (·.name==wnm)).map (fun m=>(m.path,m.func)))=some (some (#[⟨251,0,true⟩],some (202,false))):=by kernel_rfl
theorem rowGrp:(Tryz.prog.info? 219).map (fun i=>(i.methods.find? (·.name==wnm)).map (fun m=>(m.path,m.func)))=some (some (#[⟨223,0,true⟩],some (202,false))):=by kernel_rfl
theorem undKeep:Tryz.prog.cellsOf 260=1∧Tryz.prog.cellsOf 213=2∧(byteOfCell Tryz.prog Tryz.prog.depth 260 0).isSome=true∧(byteOfCell Tryz.prog Tryz.prog.depth 213 0).isSome=true:=by
 refine⟨by kernel_rfl,by kernel_rfl,by kernel_rfl,by kernel_rfl⟩
theorem head_part (b:Nat) (w:World) (n:Nat) (h:w.shape? b=some (260,n)∨w.shape? b=some (213,n)):(Go.partAt ⟨b,0,none⟩ 0 0).run Tryz.prog w=.ok ⟨b,0,none⟩ w:=by
 obtain⟨h1,h2,h3,h4⟩:=undKeep
 obtain⟨x,hx⟩:=Option.isSome_iff_exists.1 h3
 obtain⟨y,hy⟩:=Option.isSome_iff_exists.1 h4
 rcases h with h | h
 ·simp[Go.partAt,byteOf,go_sem,shape,Sem.run,h,h1,hx,noView,viewAt]
 ·simp[Go.partAt,byteOf,go_sem,shape,Sem.run,h,h2,hy,noView,viewAt]
theorem withinWord (n b k:Nat) (w:World) (nm:String) (h:nm=wnm) (hsh:w.shape? b=some (260,k)):(Go.method (n+1) 218 (.pointer (some ⟨b,0,none⟩)) nm).run Tryz.prog w=.ok (201,.agg #[]) w:=by
 rw[h]
 clear h
 obtain⟨i,hi,hm⟩:=Option.map_eq_some_iff.1 rowWord
 obtain⟨m,hm1,hm2⟩:=Option.map_eq_some_iff.1 hm
 simp only[Prod.mk.injEq]at hm2
 obtain⟨e1,e3⟩:=hm2
 have hp:=head_part b w k (.inl hsh)
 simp only[Go.method]
 simp[typeInfo,hi,hm1,e1,e3,follow,run_underlying Tryz.underlying260,run_underlying Tryz.underlying211,Place.get,asAddr,fieldPlace,receiverAt,go_sem,hp,loadVar]
theorem withinName (n b k:Nat) (w:World) (nm:String) (h:nm=wnm) (hsh:w.shape? b=some (213,k)):(Go.method (n+1) 210 (.pointer (some ⟨b,0,none⟩)) nm).run Tryz.prog w=.ok (201,.agg #[]) w:=by
 rw[h]
 clear h
 obtain⟨i,hi,hm⟩:=Option.map_eq_some_iff.1 rowName
 obtain⟨m,hm1,hm2⟩:=Option.map_eq_some_iff.1 hm
 simp only[Prod.mk.injEq]at hm2
 obtain⟨e1,e3⟩:=hm2
 have hp:=head_part b w k (.inr hsh)
 simp only[Go.method]
 simp[typeInfo,hi,hm1,e1,e3,follow,run_underlying Tryz.underlying213,run_underlying Tryz.underlying211,Place.get,asAddr,fieldPlace,receiverAt,go_sem,hp,loadVar]
theorem withinOpt (n b:Nat) (w:World) (nm:String) (h:nm=wnm):(Go.method (n+1) 266 (.pointer (some ⟨b,0,none⟩)) nm).run Tryz.prog w=((loadVar 221 ⟨b,0,none⟩).run Tryz.prog w).andThen fun v w'=>.ok (202,v) w':=by
 rw[h]
 clear h
 obtain⟨i,hi,hm⟩:=Option.map_eq_some_iff.1 rowOpt
 obtain⟨m,hm1,hm2⟩:=Option.map_eq_some_iff.1 hm
 simp only[Prod.mk.injEq]at hm2
 obtain⟨e1,e3⟩:=hm2
 simp only[Go.method]
 simp[typeInfo,hi,hm1,e1,e3,follow,run_underlying Tryz.underlying267,run_underlying Tryz.underlying221,Place.get,asAddr,fieldPlace,receiverAt,go_sem]
theorem withinLoop (n b:Nat) (w:World) (nm:String) (h:nm=wnm):(Go.method (n+1) 249 (.pointer (some ⟨b,0,none⟩)) nm).run Tryz.prog w=((loadVar 221 ⟨b,0,none⟩).run Tryz.prog w).andThen fun v w'=>.ok (202,v) w':=by
 rw[h]
 clear h
 obtain⟨i,hi,hm⟩:=Option.map_eq_some_iff.1 rowLoop
 obtain⟨m,hm1,hm2⟩:=Option.map_eq_some_iff.1 hm
 simp only[Prod.mk.injEq]at hm2
 obtain⟨e1,e3⟩:=hm2
 simp only[Go.method]
 simp[typeInfo,hi,hm1,e1,e3,follow,run_underlying Tryz.underlying251,run_underlying Tryz.underlying221,Place.get,asAddr,fieldPlace,receiverAt,go_sem]
theorem withinGrp (n b:Nat) (w:World) (nm:String) (h:nm=wnm):(Go.method (n+1) 219 (.pointer (some ⟨b,0,none⟩)) nm).run Tryz.prog w=((loadVar 221 ⟨b,0,none⟩).run Tryz.prog w).andThen fun v w'=>.ok (202,v) w':=by
 rw[h]
 clear h
 obtain⟨i,hi,hm⟩:=Option.map_eq_some_iff.1 rowGrp
 obtain⟨m,hm1,hm2⟩:=Option.map_eq_some_iff.1 hm
 simp only[Prod.mk.injEq]at hm2
 obtain⟨e1,e3⟩:=hm2
 simp only[Go.method]
 simp[typeInfo,hi,hm1,e1,e3,follow,run_underlying Tryz.underlying223,run_underlying Tryz.underlying221,Place.get,asAddr,fieldPlace,receiverAt,go_sem]
end
section
open Go.RowKit
theorem as_word_word (v:Value) (w:World):(Instr.typeAssert (.iface 218 v) 217 218 true).run Tryz.prog w=.ok (.tuple #[v,.bool true]) w:=by kernel_rfl
theorem as_word_name (v:Value) (w:World):(Instr.typeAssert (.iface 218 v) 217 210 true).run Tryz.prog w=.ok (.tuple #[.pointer none,.bool false]) w:=by kernel_rfl
theorem as_word_group (v:Value) (w:World):(Instr.typeAssert (.iface 218 v) 217 219 true).run Tryz.prog w=.ok (.tuple #[.pointer none,.bool false]) w:=by kernel_rfl
theorem as_word_loop (v:Value) (w:World):(Instr.typeAssert (.iface 218 v) 217 249 true).run Tryz.prog w=.ok (.tuple #[.pointer none,.bool false]) w:=by kernel_rfl
theorem as_word_option (v:Value) (w:World):(Instr.typeAssert (.iface 218 v) 217 266 true).run Tryz.prog w=.ok (.tuple #[.pointer none,.bool false]) w:=by kernel_rfl
theorem as_name_word (v:Value) (w:World):(Instr.typeAssert (.iface 210 v) 217 218 true).run Tryz.prog w=.ok (.tuple #[.pointer none,.bool false]) w:=by kernel_rfl
theorem as_name_name (v:Value) (w:World):(Instr.typeAssert (.iface 210 v) 217 210 true).run Tryz.prog w=.ok (.tuple #[v,.bool true]) w:=by kernel_rfl
theorem as_name_group (v:Value) (w:World):(Instr.typeAssert (.iface 210 v) 217 219 true).run Tryz.prog w=.ok (.tuple #[.pointer none,.bool false]) w:=by kernel_rfl
theorem as_name_loop (v:Value) (w:World):(Instr.typeAssert (.iface 210 v) 217 249 true).run Tryz.prog w=.ok (.tuple #[.pointer none,.bool false]) w:=by kernel_rfl
theorem as_name_option (v:Value) (w:World):(Instr.typeAssert (.iface 210 v) 217 266 true).run Tryz.prog w=.ok (.tuple #[.pointer none,.bool false]) w:=by kernel_rfl
theorem as_option_word (v:Value) (w:World):(Instr.typeAssert (.iface 266 v) 217 218 true).run Tryz.prog w=.ok (.tuple #[.pointer none,.bool false]) w:=by kernel_rfl
theorem as_option_name (v:Value) (w:World):(Instr.typeAssert (.iface 266 v) 217 210 true).run Tryz.prog w=.ok (.tuple #[.pointer none,.bool false]) w:=by kernel_rfl
theorem as_option_group (v:Value) (w:World):(Instr.typeAssert (.iface 266 v) 217 219 true).run Tryz.prog w=.ok (.tuple #[.pointer none,.bool false]) w:=by kernel_rfl
theorem as_option_loop (v:Value) (w:World):(Instr.typeAssert (.iface 266 v) 217 249 true).run Tryz.prog w=.ok (.tuple #[.pointer none,.bool false]) w:=by kernel_rfl
theorem as_option_option (v:Value) (w:World):(Instr.typeAssert (.iface 266 v) 217 266 true).run Tryz.prog w=.ok (.tuple #[v,.bool true]) w:=by kernel_rfl
theorem as_loop_word (v:Value) (w:World):(Instr.typeAssert (.iface 249 v) 217 218 true).run Tryz.prog w=.ok (.tuple #[.pointer none,.bool false]) w:=by kernel_rfl
theorem as_loop_name (v:Value) (w:World):(Instr.typeAssert (.iface 249 v) 217 210 true).run Tryz.prog w=.ok (.tuple #[.pointer none,.bool false]) w:=by kernel_rfl
theorem as_loop_group (v:Value) (w:World):(Instr.typeAssert (.iface 249 v) 217 219 true).run Tryz.prog w=.ok (.tuple #[.pointer none,.bool false]) w:=by kernel_rfl
theorem as_loop_loop (v:Value) (w:World):(Instr.typeAssert (.iface 249 v) 217 249 true).run Tryz.prog w=.ok (.tuple #[v,.bool true]) w:=by kernel_rfl
theorem as_loop_option (v:Value) (w:World):(Instr.typeAssert (.iface 249 v) 217 266 true).run Tryz.prog w=.ok (.tuple #[.pointer none,.bool false]) w:=by kernel_rfl
theorem as_group_word (v:Value) (w:World):(Instr.typeAssert (.iface 219 v) 217 218 true).run Tryz.prog w=.ok (.tuple #[.pointer none,.bool false]) w:=by kernel_rfl
theorem as_group_name (v:Value) (w:World):(Instr.typeAssert (.iface 219 v) 217 210 true).run Tryz.prog w=.ok (.tuple #[.pointer none,.bool false]) w:=by kernel_rfl
theorem as_group_group (v:Value) (w:World):(Instr.typeAssert (.iface 219 v) 217 219 true).run Tryz.prog w=.ok (.tuple #[v,.bool true]) w:=by kernel_rfl
theorem as_group_loop (v:Value) (w:World):(Instr.typeAssert (.iface 219 v) 217 249 true).run Tryz.prog w=.ok (.tuple #[.pointer none,.bool false]) w:=by kernel_rfl
theorem as_group_option (v:Value) (w:World):(Instr.typeAssert (.iface 219 v) 217 266 true).run Tryz.prog w=.ok (.tuple #[.pointer none,.bool false]) w:=by kernel_rfl
end
end Go.Proofs.YtpcmemcanpgadaaGreatDoor
