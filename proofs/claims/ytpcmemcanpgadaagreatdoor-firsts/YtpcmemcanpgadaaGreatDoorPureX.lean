import Derived.Test.YtpcmemcanpgadaaGreatDoorPureA
namespace PredP
section
inductive XOp where
 | word | name | row | bar | opt | loop
deriving DecidableEq,Repr
mutual
inductive X where
 | mk (id:Nat) (op:XOp) (pos:Nat) (s:Str) (bars:List Nat) (l:Xs)
inductive Xs where
 | nil
 | cons (x:X) (l:Xs)
end
def X.id:X→Nat | .mk i _ _ _ _ _=>i
def X.op:X→XOp | .mk _ o _ _ _ _=>o
def X.pos:X→Nat | .mk _ _ p _ _ _=>p
def X.s:X→Str | .mk _ _ _ s _ _=>s
def X.bars:X→List Nat | .mk _ _ _ _ b _=>b
def X.kids:X→Xs | .mk _ _ _ _ _ l=>l
def Xs.list:Xs→List X
 | .nil=>[]
 | .cons x l=>x::l.list
def Xs.ids:Xs→List Nat
 | .nil=>[]
 | .cons x l=>x.id::l.ids
theorem Xs.ids_list:∀l:Xs,l.ids=l.list.map X.id
 | .nil=>rfl
 | .cons x l=>by simp[Xs.ids,Xs.list,Xs.ids_list l]
mutual
def derX (b:Bool) (k:Str→Bool):X→Bool
 | .mk _ .word _ _ _ _=>b
 | .mk _ .name _ s _ _=>k s
 | .mk _ .row _ _ _ l=>derAll b k l
 | .mk _ .bar _ _ _ l=>derAny b k l
 | .mk _ .opt _ _ _ _=>true
 | .mk _ .loop _ _ _ _=>true
def derAll (b:Bool) (k:Str→Bool):Xs→Bool
 | .nil=>true
 | .cons x l=>derX b k x&&derAll b k l
def derAny (b:Bool) (k:Str→Bool):Xs→Bool
 | .nil=>false
 | .cons x l=>derX b k x||derAny b k l
end
mutual
def fstX (w:Str) (f k:Str→Bool):X→Bool
 | .mk _ .word _ s _ _=>s==w
 | .mk _ .name _ s _ _=>f s
 | .mk _ .row _ _ _ l=>fstRow w f k l
 | .mk _ .bar _ _ _ l=>fstAny w f k l
 | .mk _ .opt _ _ _ l=>fstAny w f k l
 | .mk _ .loop _ _ _ l=>fstAny w f k l
def fstRow (w:Str) (f k:Str→Bool):Xs→Bool
 | .nil=>false
 | .cons x l=>fstX w f k x||(derX false k x&&fstRow w f k l)
def fstAny (w:Str) (f k:Str→Bool):Xs→Bool
 | .nil=>false
 | .cons x l=>fstX w f k x||fstAny w f k l
end
def isRow (l:Xs→Prop):X→Prop
 | .mk _ .row _ _ b k=>b=[]∧l k
 | _=>False
mutual
def xP:Part→X→Prop
 | .word s,x=>∃i p,x=.mk i .word p s [] .nil
 | .name s p,x=>∃i,x=.mk i .name p s [] .nil
 | .br .grp _ e,x=>xE e x
 | .br .opt p e,x=>∃i y,x=.mk i .opt p [] [] (.cons y .nil)∧xE e y
 | .br .loop p e,x=>∃i y,x=.mk i .loop p [] [] (.cons y .nil)∧xE e y
def xR:Parts→Xs→Prop
 | .nil,l=>l=.nil
 | .cons p ps,l=>∃x l',l=.cons x l'∧xP p x∧xR ps l'
def xE:Rows→X→Prop
 | .nil,_=>False
 | .cons _ r .nil,x=>∃i p l,x=.mk i .row p [] [] l∧xR r l
 | .cons _ r (.cons b r' e),x=>∃i p y l,x=.mk i .bar p [] (b::barsOf e) (.cons y l)∧(∃j q m,y=.mk j .row q [] [] m∧xR r m)∧xEs (.cons b r' e) l
def xEs:Rows→Xs→Prop
 | .nil,l=>l=.nil
 | .cons _ r e,l=>∃y l',l=.cons y l'∧(∃j q m,y=.mk j .row q [] [] m∧xR r m)∧xEs e l'
def barsOf:Rows→List Nat
 | .nil=>[]
 | .cons b _ e=>b::barsOf e
end
mutual
theorem derX_P (b:Bool) (k:Str→Bool):∀(p:Part) (x:X),xP p x→derX b k x=derP b k p
 | .word s,x,h=>by rw[xP]at h;obtain⟨i,p,rfl⟩:=h;rw[derX,derP]
 | .name s p,x,h=>by rw[xP]at h;obtain⟨i,rfl⟩:=h;rw[derX,derP]
 | .br .grp _ e,x,h=>by rw[xP]at h;rw[derP];exact derX_E b k e x h
 | .br .opt _ e,x,h=>by rw[xP]at h;obtain⟨i,y,rfl,_⟩:=h;rw[derX,derP]
 | .br .loop _ e,x,h=>by rw[xP]at h;obtain⟨i,y,rfl,_⟩:=h;rw[derX,derP]
theorem derAll_R (b:Bool) (k:Str→Bool):∀(ps:Parts) (l:Xs),xR ps l→derAll b k l=derR b k ps
 | .nil,l,h=>by rw[xR]at h;subst h;rw[derAll,derR]
 | .cons p ps,l,h=>by
  rw[xR]at h
  obtain⟨x,l',rfl,hp,hr⟩:=h
  rw[derAll,derR,derX_P b k p x hp,derAll_R b k ps l' hr]
theorem derX_E (b:Bool) (k:Str→Bool):∀(e:Rows) (x:X),xE e x→derX b k x=derE b k e
 | .nil,x,h=>by rw[xE]at h;exact h.elim
 | .cons _ r .nil,x,h=>by
  rw[xE]at h
  obtain⟨i,p,l,rfl,hr⟩:=h
  rw[derX,derE,derE,derAll_R b k r l hr,Bool.or_false]
 | .cons _ r (.cons c r' e),x,h=>by
  rw[xE]at h
  obtain⟨i,p,y,l,rfl,⟨j,q,m,rfl,hr⟩,hs⟩:=h
  rw[derX,derAny,derE,derX,derAll_R b k r m hr,derAny_Es b k (.cons c r' e) l hs]
theorem derAny_Es (b:Bool) (k:Str→Bool):∀(e:Rows) (l:Xs),xEs e l→derAny b k l=derE b k e
 | .nil,l,h=>by rw[xEs]at h;subst h;rw[derAny,derE]
 | .cons _ r e,l,h=>by
  rw[xEs]at h
  obtain⟨y,l',rfl,⟨j,q,m,rfl,hr⟩,hs⟩:=h
  rw[derAny,derE,derX,derAll_R b k r m hr,derAny_Es b k e l' hs]
end
mutual
theorem fstX_P (w:Str) (f k:Str→Bool):∀(p:Part) (x:X),xP p x→fstX w f k x=fstP w f k p
 | .word s,x,h=>by rw[xP]at h;obtain⟨i,p,rfl⟩:=h;rw[fstX,fstP]
 | .name s p,x,h=>by rw[xP]at h;obtain⟨i,rfl⟩:=h;rw[fstX,fstP]
 | .br .grp _ e,x,h=>by rw[xP]at h;rw[fstP];exact fstX_E w f k e x h
 | .br .opt _ e,x,h=>by rw[xP]at h;obtain⟨i,y,rfl,hy⟩:=h;rw[fstX,fstP,fstAny,fstAny,fstX_E w f k e y hy,Bool.or_false]
 | .br .loop _ e,x,h=>by rw[xP]at h;obtain⟨i,y,rfl,hy⟩:=h;rw[fstX,fstP,fstAny,fstAny,fstX_E w f k e y hy,Bool.or_false]
theorem fstRow_R (w:Str) (f k:Str→Bool):∀(ps:Parts) (l:Xs),xR ps l→fstRow w f k l=fstR w f k ps
 | .nil,l,h=>by rw[xR]at h;subst h;rw[fstRow,fstR]
 | .cons p ps,l,h=>by
  rw[xR]at h
  obtain⟨x,l',rfl,hp,hr⟩:=h
  rw[fstRow,fstR,fstX_P w f k p x hp,fstRow_R w f k ps l' hr,derX_P false k p x hp]
theorem fstX_E (w:Str) (f k:Str→Bool):∀(e:Rows) (x:X),xE e x→fstX w f k x=fstE w f k e
 | .nil,x,h=>by rw[xE]at h;exact h.elim
 | .cons _ r .nil,x,h=>by
  rw[xE]at h
  obtain⟨i,p,l,rfl,hr⟩:=h
  rw[fstX,fstE,fstE,fstRow_R w f k r l hr,Bool.or_false]
 | .cons _ r (.cons c r' e),x,h=>by
  rw[xE]at h
  obtain⟨i,p,y,l,rfl,⟨j,q,m,rfl,hr⟩,hs⟩:=h
  rw[fstX,fstAny,fstE,fstX,fstRow_R w f k r m hr,fstAny_Es w f k (.cons c r' e) l hs]
theorem fstAny_Es (w:Str) (f k:Str→Bool):∀(e:Rows) (l:Xs),xEs e l→fstAny w f k l=fstE w f k e
 | .nil,l,h=>by rw[xEs]at h;subst h;rw[fstAny,fstE]
 | .cons _ r e,l,h=>by
  rw[xEs]at h
  obtain⟨y,l',rfl,⟨j,q,m,rfl,hr⟩,hs⟩:=h
  rw[fstAny,fstE,fstX,fstRow_R w f k r m hr,fstAny_Es w f k e l' hs]
end
inductive Ctx where
 | top
 | into (p:X) (i:Nat) (c:Ctx)
def Xs.drop:Xs→Nat→Xs
 | l,0=>l
 | .nil,_+1=>.nil
 | .cons _ l,n+1=>l.drop n
def aftC (w:Str) (f k:Str→Bool) (a:Bool):X→Ctx→Bool
 | _,.top=>a
 | x,.into p i c =>
  match p.op with
  | .row=>fstRow w f k (p.kids.drop (i+1))||(derAll false k (p.kids.drop (i+1))&&aftC w f k a p c)
  | .loop=>fstX w f k x||aftC w f k a p c
  | _=>aftC w f k a p c
mutual
def partsX (c:Ctx):X→List (X×Ctx)
 | .mk i o p s b l=>(.mk i o p s b l,c)::partsXs (.mk i o p s b l) c 0 l
def partsXs (p:X) (c:Ctx) (n:Nat):Xs→List (X×Ctx)
 | .nil=>[]
 | .cons y l=>partsX (.into p n c) y++partsXs p c (n+1) l
end
end
section
mutual
def X.all:X→List Nat
 | .mk i _ _ _ _ l=>i::l.all
def Xs.all:Xs→List Nat
 | .nil=>[]
 | .cons x l=>x.all++l.all
end
def Xs.snoc:Xs→X→Xs
 | .nil,x=>.cons x .nil
 | .cons y l,x=>.cons y (l.snoc x)
theorem Xs.ids_snoc (x:X):∀l:Xs,(l.snoc x).ids=l.ids++[x.id]
 | .nil=>rfl
 | .cons y l=>by simp[Xs.snoc,Xs.ids,Xs.ids_snoc x l]
theorem Xs.all_snoc (x:X):∀l:Xs,(l.snoc x).all=l.all++x.all
 | .nil=>by simp[Xs.snoc,Xs.all]
 | .cons y l=>by simp[Xs.snoc,Xs.all,Xs.all_snoc x l]
theorem xR_snoc {p:Part} {x:X} (h:xP p x):∀(ps:Parts) (l:Xs),xR ps l→xR (ps.app (.cons p .nil)) (l.snoc x)
 | .nil,l,hl=>by
  rw[xR]at hl
  subst hl
  rw[Parts.app,Xs.snoc,xR]
  exact⟨x,.nil,rfl,h,by rw[xR]⟩
 | .cons q ps,l,hl=>by
  rw[xR]at hl
  obtain⟨y,l',rfl,hq,hr⟩:=hl
  rw[Parts.app,Xs.snoc,xR]
  exact⟨y,l'.snoc x,rfl,hq,xR_snoc h ps l' hr⟩
theorem xEs_snoc {b:Nat} {r:Parts} {j q:Nat} {m:Xs} (h:xR r m):∀(e:Rows) (l:Xs),xEs e l→xEs (e.app (.cons b r .nil)) (l.snoc (.mk j .row q [] [] m))
 | .nil,l,hl=>by
  rw[xEs]at hl
  subst hl
  rw[Rows.app,Xs.snoc,xEs]
  exact⟨_,.nil,rfl,⟨j,q,m,rfl,h⟩,by rw[xEs]⟩
 | .cons _ r' e,l,hl=>by
  rw[xEs]at hl
  obtain⟨y,l',rfl,hy,hs⟩:=hl
  rw[Rows.app,Xs.snoc,xEs]
  exact⟨y,_,rfl,hy,xEs_snoc h e l' hs⟩
theorem barsOf_app (b:Nat) (r:Parts):∀e:Rows,barsOf (e.app (.cons b r .nil))=barsOf e++[b]
 | .nil=>by rw[Rows.app,barsOf,barsOf,barsOf];rfl
 | .cons c r' e=>by rw[Rows.app,barsOf,barsOf,barsOf_app b r e];rfl
theorem X.id_mem:∀x:X,x.id∈x.all
 | .mk i _ _ _ _ l=>by rw[X.all];exact List.mem_cons_self
theorem Xs.len_ids:∀l:Xs,l.ids.length=l.list.length
 | .nil=>rfl
 | .cons x l=>by simp[Xs.ids,Xs.list,Xs.len_ids l]
end
section
def nameAt (w:Str) (f k:Str→Bool) (a:Bool) (n:Str) (q:X×Ctx):Bool:=(q.1.op==.name&&q.1.s==n)&&aftC w f k a q.1 q.2
theorem Xs.drop_cons {l:Xs} {n:Nat} {y:X} {m:Xs} (h:l.drop n=.cons y m):l.drop (n+1)=m:=by
 induction n generalizing l with
 | zero=>rw[Xs.drop]at h;subst h;rw[Xs.drop,Xs.drop]
 | succ n ih =>
  cases l with
  | nil=>rw[Xs.drop]at h;simp at h
  | cons z l=>rw[Xs.drop]at h;rw[Xs.drop];exact ih h
mutual
theorem occ_P (w:Str) (f k:Str→Bool) (a:Bool) (n:Str):∀(p:Part) (x:X) (c:Ctx),xP p x →
  (partsX c x).any (nameAt w f k a n)=occP w f k n (aftC w f k a x c) p
 | .word s,x,c,h=>by rw[xP]at h;obtain⟨i,p,rfl⟩:=h;simp[partsX,partsXs,nameAt,occP,X.op]
 | .name s p,x,c,h=>by rw[xP]at h;obtain⟨i,rfl⟩:=h;simp[partsX,partsXs,nameAt,occP,X.op,X.s]
 | .br .grp _ e,x,c,h=>by rw[xP]at h;rw[occP];exact occ_E w f k a n e x c h
 | .br .opt p e,x,c,h=>by
  rw[xP]at h
  obtain⟨i,y,rfl,hy⟩:=h
  have:=occ_E w f k a n e y (.into (.mk i .opt p [] [] (.cons y .nil)) 0 c) hy
  rw[aftC]at this
  simp only[X.op]at this
  rw[occP,show within w f k (aftC w f k a (.mk i .opt p [] [] (.cons y .nil)) c) .opt e=aftC w f k a (.mk i .opt p [] [] (.cons y .nil)) c from rfl,partsX,partsXs,partsXs,List.append_nil,List.any_cons,this]
  simp[nameAt,X.op]
 | .br .loop p e,x,c,h=>by
  rw[xP]at h
  obtain⟨i,y,rfl,hy⟩:=h
  have:=occ_E w f k a n e y (.into (.mk i .loop p [] [] (.cons y .nil)) 0 c) hy
  rw[aftC]at this
  simp only[X.op]at this
  rw[fstX_E w f k e y hy]at this
  rw[occP,within,partsX,partsXs,partsXs,List.append_nil,List.any_cons,this]
  simp[nameAt,X.op]
theorem occ_R (w:Str) (f k:Str→Bool) (a:Bool) (n:Str):∀(ps:Parts) (x:X) (c:Ctx) (m:Nat) (l:Xs),x.op=.row→x.kids.drop m=l→xR ps l →
  (partsXs x c m l).any (nameAt w f k a n)=occR w f k n (aftC w f k a x c) ps
 | .nil,x,c,m,l,_,_,h=>by rw[xR]at h;subst h;simp[partsXs,occR]
 | .cons p ps,x,c,m,l,ho,hd,h=>by
  rw[xR]at h
  obtain⟨y,l',rfl,hp,hr⟩:=h
  have hd':=Xs.drop_cons hd
  have h1:=occ_P w f k a n p y (.into x m c) hp
  rw[aftC,ho]at h1
  simp only at h1
  rw[hd',fstRow_R w f k ps l' hr,derAll_R false k ps l' hr]at h1
  rw[partsXs,List.any_append,h1,occ_R w f k a n ps x c (m+1) l' ho hd' hr,occR,telR]
theorem occ_E (w:Str) (f k:Str→Bool) (a:Bool) (n:Str):∀(e:Rows) (x:X) (c:Ctx),xE e x →
  (partsX c x).any (nameAt w f k a n)=occE w f k n (aftC w f k a x c) e
 | .nil,x,c,h=>by rw[xE]at h;exact h.elim
 | .cons _ r .nil,x,c,h=>by
  rw[xE]at h
  obtain⟨i,p,l,rfl,hr⟩:=h
  rw[partsX,List.any_cons,occ_R w f k a n r (.mk i .row p [] [] l) c 0 l rfl (by rw[X.kids,Xs.drop]) hr,occE,occE]
  simp[nameAt,X.op]
 | .cons _ r (.cons b r' e),x,c,h=>by
  rw[xE]at h
  obtain⟨i,p,y,l,rfl,⟨j,q,m,rfl,hr⟩,hs⟩:=h
  have h1:=occ_R w f k a n r (.mk j .row q [] [] m) (.into (.mk i .bar p [] (b::barsOf e) (.cons (.mk j .row q [] [] m) l)) 0 c) 0 m rfl (by rw[X.kids,Xs.drop]) hr
  rw[aftC]at h1
  simp only[X.op]at h1
  rw[partsX,List.any_cons,partsXs,List.any_append,partsX,List.any_cons,h1,occ_Es w f k a n (.cons b r' e) _ c 1 l rfl hs]
  conv=>rhs;rw[occE]
  rw[show nameAt w f k a n (X.mk i .bar p [] (b::barsOf e) (.cons (.mk j .row q [] [] m) l),c)=false from rfl,show nameAt w f k a n (X.mk j .row q [] [] m,Ctx.into (X.mk i .bar p [] (b::barsOf e) (.cons (.mk j .row q [] [] m) l)) 0 c)=false from rfl,Bool.false_or,Bool.false_or]
theorem occ_Es (w:Str) (f k:Str→Bool) (a:Bool) (n:Str):∀(e:Rows) (x:X) (c:Ctx) (m:Nat) (l:Xs),x.op=.bar→xEs e l →
  (partsXs x c m l).any (nameAt w f k a n)=occE w f k n (aftC w f k a x c) e
 | .nil,x,c,m,l,_,h=>by rw[xEs]at h;subst h;simp[partsXs,occE]
 | .cons _ r e,x,c,m,l,ho,h=>by
  rw[xEs]at h
  obtain⟨y,l',rfl,⟨j,q,t,rfl,hr⟩,hs⟩:=h
  have h1:=occ_R w f k a n r (.mk j .row q [] [] t) (.into x m c) 0 t rfl (by rw[X.kids,Xs.drop]) hr
  rw[aftC,ho]at h1
  simp only at h1
  rw[partsXs,List.any_append,partsX,List.any_cons,h1,occ_Es w f k a n e x c (m+1) l' ho hs,occE]
  rw[show nameAt w f k a n (X.mk j .row q [] [] t,Ctx.into x m c)=false from rfl,Bool.false_or]
end
def telX (w:Str) (f k:Str→Bool) (a:Bool) (x:X) (c:Ctx):Bool:=fstX w f k x||(derX false k x&&aftC w f k a x c)
def barPl (F:Str→Str→Bool) (k A:Str→Bool) (x:X) (c:Ctx):(Str→Bool)→Nat→List Nat→Xs→List Place
 | ahead,n,b::bars,.cons y l=>(b,fun w=>ahead w&&telX w (F w) k (A w) y (.into x n c))::barPl F k A x c (fun w=>ahead w||telX w (F w) k (A w) y (.into x n c)) (n+1) bars l
 | _,_,_,_=>[]
def contrib (F:Str→Str→Bool) (k A:Str→Bool) (q:X×Ctx):List Place :=
 match q with
 | (.mk i .opt p s b (.cons y l),c)=>[(p,fun w=>telX w (F w) k (A w) y (.into (.mk i .opt p s b (.cons y l)) 0 c)&&aftC w (F w) k (A w) (.mk i .opt p s b (.cons y l)) c)]
 | (.mk i .loop p s b (.cons y l),c)=>[(p,fun w=>telX w (F w) k (A w) y (.into (.mk i .loop p s b (.cons y l)) 0 c)&&aftC w (F w) k (A w) (.mk i .loop p s b (.cons y l)) c)]
 | (.mk i .bar p s b (.cons y l),c)=>barPl F k A (.mk i .bar p s b (.cons y l)) c (fun w=>telX w (F w) k (A w) y (.into (.mk i .bar p s b (.cons y l)) 0 c)) 1 b l
 | _=>[]
def hit (l:List Place) (p:Nat) (w:Str):Bool:=l.any (fun q=>q.1==p&&q.2 w)
theorem hit_append (l m:List Place) (p:Nat) (w:Str):hit (l++m) p w=(hit l p w||hit m p w):=by simp[hit]
theorem hit_nil (p:Nat) (w:Str):hit [] p w=false:=rfl
theorem hit_cons (q:Place) (l:List Place) (p:Nat) (w:Str):hit (q::l) p w=((q.1==p&&q.2 w)||hit l p w):=by simp[hit]
def plX (F:Str→Str→Bool) (k A:Str→Bool) (l:List (X×Ctx)):List Place:=l.flatMap (contrib F k A)
theorem plX_append (F:Str→Str→Bool) (k A:Str→Bool) (l m:List (X×Ctx)):plX F k A (l++m)=plX F k A l++plX F k A m:=by simp[plX]
theorem plX_cons (F:Str→Str→Bool) (k A:Str→Bool) (q:X×Ctx) (m:List (X×Ctx)):plX F k A (q::m)=contrib F k A q++plX F k A m:=by simp[plX]
def rowsPl (F:Str→Str→Bool) (k:Str→Bool) (ahead B:Str→Bool):Rows→List Place
 | .nil=>[]
 | .cons bar r e=>(bar,fun w=>telR w (F w) k (B w) r&&ahead w)::rowsPl F k (fun w=>ahead w||telR w (F w) k (B w) r) B e
def inPl (F:Str→Str→Bool) (k:Str→Bool) (B:Str→Bool):Rows→List Place
 | .nil=>[]
 | .cons _ r e=>placesR F k B r++inPl F k B e
theorem placesE_split (F:Str→Str→Bool) (k:Str→Bool) (B:Str→Bool) (p:Nat) (w:Str):∀(e:Rows) (ahead:Str→Bool),
  hit (placesE F k ahead B e) p w=(hit (rowsPl F k ahead B e) p w||hit (inPl F k B e) p w)
 | .nil,ahead=>by rw[placesE,rowsPl,inPl];rfl
 | .cons b r e,ahead=>by
  rw[placesE,rowsPl,inPl,hit_cons,hit_append,hit_cons,hit_append,placesE_split F k B p w e]
  generalize hit (placesR F k B r) p w=u
  generalize hit (rowsPl F k (fun w=>ahead w||telR w (F w) k (B w) r) B e) p w=v
  generalize hit (inPl F k B e) p w=z
  cases u<;>cases v<;>cases z<;>simp
theorem barPl_hit (F:Str→Str→Bool) (k A:Str→Bool) (x:X) (c:Ctx) (hx:x.op=.bar) (p:Nat) (w:Str) (B:Str→Bool) (hB:∀w,aftC w (F w) k (A w) x c=B w):∀(e:Rows) (l:Xs) (n:Nat) (ahead:Str→Bool),xEs e l →
  hit (barPl F k A x c ahead n (barsOf e) l) p w=hit (rowsPl F k ahead B e) p w
 | .nil,l,n,ahead,h=>by rw[xEs]at h;subst h;rw[barsOf,barPl,rowsPl];all_goals simp
 | .cons b r e,l,n,ahead,h=>by
  rw[xEs]at h
  obtain⟨y,l',rfl,⟨j,q,t,rfl,hr⟩,hs⟩:=h
  have ht:∀w,telX w (F w) k (A w) (.mk j .row q [] [] t) (.into x n c)=telR w (F w) k (B w) r:=fun w=>by
   rw[telX,aftC,hx]
   simp only
   rw[hB,fstX,derX,fstRow_R w (F w) k r t hr,derAll_R false k r t hr,telR]
  rw[barsOf,barPl,rowsPl,hit_cons,hit_cons]
  simp only[ht]
  rw[barPl_hit F k A x c hx p w B hB e l' (n+1) _ hs,Bool.and_comm (ahead w)]
theorem tel_split (w:Str) (f k:Str→Bool) (b:Bool):∀e:Rows,(fstE w f k e||(derE false k e&&b))=telE w f k b e
 | .nil=>by rw[fstE,derE,telE];rfl
 | .cons _ r e=>by
  rw[fstE,derE,telE,←tel_split w f k b e,telR]
  generalize fstR w f k r=u
  generalize derR false k r=v
  generalize fstE w f k e=x
  generalize derE false k e=y
  cases u<;>cases v<;>cases x<;>cases y<;>cases b<;>rfl
mutual
theorem pl_P (F:Str→Str→Bool) (k A:Str→Bool) (p:Nat) (w:Str):∀(q:Part) (x:X) (c:Ctx) (B:Str→Bool),(∀w,aftC w (F w) k (A w) x c=B w)→xP q x →
  hit (plX F k A (partsX c x)) p w=hit (placesP F k B q) p w
 | .word s,x,c,B,_,h=>by rw[xP]at h;obtain⟨i,p,rfl⟩:=h;simp[partsX,partsXs,plX,contrib,placesP]
 | .name s p,x,c,B,_,h=>by rw[xP]at h;obtain⟨i,rfl⟩:=h;simp[partsX,partsXs,plX,contrib,placesP]
 | .br .grp _ e,x,c,B,hB,h=>by rw[xP]at h;rw[placesP];exact pl_E F k A p w e x c B hB h
 | .br .opt p' e,x,c,B,hB,h=>by
  rw[xP]at h
  obtain⟨i,y,rfl,hy⟩:=h
  have hB':∀w,aftC w (F w) k (A w) y (.into (.mk i .opt p' [] [] (.cons y .nil)) 0 c)=B w:=fun w=>by rw[aftC];exact hB w
  have:=pl_E F k A p w e y (.into (.mk i .opt p' [] [] (.cons y .nil)) 0 c) B hB' hy
  rw[partsX,partsXs,partsXs,List.append_nil,plX_cons,hit_append,this,placesP,hit_cons,contrib,hit_cons,hit_nil,Bool.or_false]
  simp only[telX,hB',hB,fstX_E _ _ _ e y hy,derX_E _ _ e y hy]
  rw[tel_split]
 | .br .loop p' e,x,c,B,hB,h=>by
  rw[xP]at h
  obtain⟨i,y,rfl,hy⟩:=h
  have hB':∀w,aftC w (F w) k (A w) y (.into (.mk i .loop p' [] [] (.cons y .nil)) 0 c)=(fstE w (F w) k e||B w):=fun w=>by
   rw[aftC]
   simp only[X.op]
   rw[hB w,fstX_E w (F w) k e y hy]
  have:=pl_E F k A p w e y (.into (.mk i .loop p' [] [] (.cons y .nil)) 0 c) _ hB' hy
  rw[partsX,partsXs,partsXs,List.append_nil,plX_cons,hit_append,this,placesP,hit_cons,contrib,hit_cons,hit_nil,Bool.or_false]
  simp only[telX,hB',hB,fstX_E _ _ _ e y hy,derX_E _ _ e y hy]
  rw[tel_split]
theorem pl_R (F:Str→Str→Bool) (k A:Str→Bool) (p:Nat) (w:Str):∀(ps:Parts) (x:X) (c:Ctx) (m:Nat) (l:Xs) (B:Str→Bool),(∀w,aftC w (F w) k (A w) x c=B w)→x.op=.row→x.kids.drop m=l→xR ps l →
  hit (plX F k A (partsXs x c m l)) p w=hit (placesR F k B ps) p w
 | .nil,x,c,m,l,B,_,_,_,h=>by rw[xR]at h;subst h;simp[partsXs,placesR,plX]
 | .cons q ps,x,c,m,l,B,hB,ho,hd,h=>by
  rw[xR]at h
  obtain⟨y,l',rfl,hp,hr⟩:=h
  have hd':=Xs.drop_cons hd
  have hB':∀w,aftC w (F w) k (A w) y (.into x m c)=telR w (F w) k (B w) ps:=fun w=>by
   rw[aftC,ho]
   simp only
   rw[hd',fstRow_R w (F w) k ps l' hr,derAll_R false k ps l' hr,hB w,telR]
  rw[partsXs,plX_append,hit_append,pl_P F k A p w q y _ _ hB' hp,pl_R F k A p w ps x c (m+1) l' B hB ho hd' hr,placesR,hit_append]
theorem pl_E (F:Str→Str→Bool) (k A:Str→Bool) (p:Nat) (w:Str):∀(e:Rows) (x:X) (c:Ctx) (B:Str→Bool),(∀w,aftC w (F w) k (A w) x c=B w)→xE e x →
  hit (plX F k A (partsX c x)) p w=hit (placesE F k (fun _=>false) B e) p w
 | .nil,x,c,B,_,h=>by rw[xE]at h;exact h.elim
 | .cons b r .nil,x,c,B,hB,h=>by
  rw[xE]at h
  obtain⟨i,p',l,rfl,hr⟩:=h
  rw[partsX,plX_cons,contrib,List.nil_append,pl_R F k A p w r (.mk i .row p' [] [] l) c 0 l B hB rfl (by rw[X.kids,Xs.drop]) hr,placesE_split,rowsPl,rowsPl,inPl,inPl,List.append_nil,hit_cons,hit_nil]
  all_goals simp
 | .cons b0 r (.cons b r' e),x,c,B,hB,h=>by
  rw[xE]at h
  obtain⟨i,p',y,l,rfl,⟨j,q,m,rfl,hr⟩,hs⟩:=h
  obtain⟨x,hx⟩:∃x,x=X.mk i .bar p' [] (b::barsOf e) (.cons (.mk j .row q [] [] m) l):=⟨_,rfl⟩
  have ho:x.op=.bar:=by rw[hx];rfl
  have hB':∀w,aftC w (F w) k (A w) (.mk j .row q [] [] m) (.into x 0 c)=B w:=fun w=>by
   rw[aftC,ho]
   simp only
   rw[hx]
   exact hB w
  have ht:∀w,telX w (F w) k (A w) (.mk j .row q [] [] m) (.into x 0 c)=telR w (F w) k (B w) r:=fun w=>by
   rw[telX,hB' w,fstX,derX,fstRow_R w (F w) k r m hr,derAll_R false k r m hr,telR]
  have h1:=pl_R F k A p w r (.mk j .row q [] [] m) (.into x 0 c) 0 m B hB' rfl (by rw[X.kids,Xs.drop]) hr
  have h2:=barPl_hit F k A x c ho p w B (by rw[hx];exact hB) (.cons b r' e) l 1 (fun w=>telR w (F w) k (B w) r) hs
  have h3:=pl_Es F k A p w (.cons b r' e) x c 1 l B (by rw[hx];exact hB) ho hs
  rw[barsOf]at h2
  rw[partsX,plX_cons,contrib,←hx,hit_append]
  simp only[ht]
  rw[h2,partsXs,plX_append,hit_append,partsX,plX_cons,contrib,List.nil_append,h1,h3,placesE_split]
  ·conv=>rhs;rw[rowsPl,hit_cons,inPl,hit_append]
   simp
  all_goals simp
theorem pl_Es (F:Str→Str→Bool) (k A:Str→Bool) (p:Nat) (w:Str):∀(e:Rows) (x:X) (c:Ctx) (m:Nat) (l:Xs) (B:Str→Bool),(∀w,aftC w (F w) k (A w) x c=B w)→x.op=.bar→xEs e l →
  hit (plX F k A (partsXs x c m l)) p w=hit (inPl F k B e) p w
 | .nil,x,c,m,l,B,_,_,h=>by rw[xEs]at h;subst h;simp[partsXs,inPl,plX]
 | .cons _ r e,x,c,m,l,B,hB,ho,h=>by
  rw[xEs]at h
  obtain⟨y,l',rfl,⟨j,q,t,rfl,hr⟩,hs⟩:=h
  have hB':∀w,aftC w (F w) k (A w) (.mk j .row q [] [] t) (.into x m c)=B w:=fun w=>by
   rw[aftC,ho]
   exact hB w
  have h1:=pl_R F k A p w r (.mk j .row q [] [] t) (.into x m c) 0 t B hB' rfl (by rw[X.kids,Xs.drop]) hr
  rw[partsXs,plX_append,hit_append,partsX,plX_cons,contrib,List.nil_append,h1,pl_Es F k A p w e x c (m+1) l' B hB ho hs,inPl,hit_append]
  all_goals simp
end
end
section
def Up (lo hi:Nat) (l:List Place):Prop :=
 (∀q,q∈l→∀v,q.2 v=true→lo≤q.1∧q.1<hi)∧l.Pairwise (fun a b=>∀v v',a.2 v=true→b.2 v'=true→a.1<b.1)
theorem Up.nil {lo hi:Nat}:Up lo hi []:=⟨fun q h=>by simp at h,.nil⟩
theorem Up.append {lo m hi:Nat} {l l':List Place} (hlm:lo≤m) (hmh:m≤hi) (a:Up lo m l) (b:Up m hi l'):Up lo hi (l++l'):=by
 refine⟨?_,?_⟩
 ·intro q hq v hv
  rcases List.mem_append.1 hq with h | h
  ·have:=a.1 q h v hv;omega
  ·have:=b.1 q h v hv;omega
 ·refine List.pairwise_append.2 ⟨a.2,b.2,?_⟩
  intro x hx y hy v v' hv hv'
  have:=a.1 x hx v hv
  have:=b.1 y hy v' hv'
  omega
theorem Up.wide {lo hi lo' hi':Nat} {l:List Place} (a:lo'≤lo) (b:hi≤hi') (h:Up lo hi l):Up lo' hi' l :=
 ⟨fun q hq v hv=>by have:=h.1 q hq v hv;omega,h.2⟩
theorem Up.cons {lo hi p:Nat} {P:Str→Bool} {l:List Place} (h1:lo≤p) (h2:p<hi) (h:Up (p+1) hi l):Up lo hi ((p,P)::l):=by
 refine⟨?_,List.pairwise_cons.2 ⟨?_,h.2⟩⟩
 ·intro q hq v hv
  rcases List.mem_cons.1 hq with rfl | hq
  ·exact⟨h1,h2⟩
  ·have:=h.1 q hq v hv;omega
 ·intro q hq v v' _ hv'
  have:=h.1 q hq v' hv'
  show p<q.1
  omega
theorem Up.cons_false {lo hi p:Nat} {P:Str→Bool} {l:List Place} (hP:∀v,P v=false) (h:Up lo hi l):Up lo hi ((p,P)::l):=by
 refine⟨?_,List.pairwise_cons.2 ⟨?_,h.2⟩⟩
 ·intro q hq v hv
  rcases List.mem_cons.1 hq with rfl | hq
  ·have:=hP v
   rw[show P v=true from hv]at this
   cases this
  ·exact h.1 q hq v hv
 ·intro q hq v v' hv _
  have:=hP v
  rw[show P v=true from hv]at this
  cases this
mutual
theorem up_P (F:Str→Str→Bool) (k:Str→Bool):∀(q:Part) (lo hi:Nat) (B:Str→Bool),posP lo hi q→Up lo hi (placesP F k B q)
 | .word _,_,_,_,_=>by rw[placesP];exact Up.nil
 | .name _ _,_,_,_,_=>by rw[placesP];exact Up.nil
 | .br .grp p e,lo,hi,B,h=>by
  rw[posP]at h;rw[placesP]
  exact(up_E F k e _ _ B h.2).wide (by omega) (Nat.le_refl _)
 | .br .opt p e,lo,hi,B,h=>by
  rw[posP]at h;rw[placesP]
  have:=posE_le h.2
  exact Up.cons h.1 (by omega) (up_E F k e _ _ B h.2)
 | .br .loop p e,lo,hi,B,h=>by
  rw[posP]at h;rw[placesP]
  have:=posE_le h.2
  exact Up.cons h.1 (by omega) (up_E F k e _ _ _ h.2)
theorem up_R (F:Str→Str→Bool) (k:Str→Bool):∀(q:Parts) (lo hi:Nat) (B:Str→Bool),posR lo hi q→Up lo hi (placesR F k B q)
 | .nil,_,_,_,_=>by rw[placesR];exact Up.nil
 | .cons p ps,lo,hi,B,h=>by
  rw[posR]at h;rw[placesR]
  obtain⟨m,a,b⟩:=h
  exact Up.append (Nat.le_of_lt (posP_le a)) (posR_le b) (up_P F k p _ _ _ a) (up_R F k ps _ _ B b)
theorem up_E (F:Str→Str→Bool) (k:Str→Bool):∀(q:Rows) (lo hi:Nat) (B:Str→Bool),posE lo hi q→Up lo hi (placesE F k (fun _=>false) B q)
 | .nil,_,_,_,_=>by rw[placesE];exact Up.nil
 | .cons bar r e,lo,hi,B,h=>by
  rw[posE]at h;rw[placesE]
  obtain⟨m,a,b⟩:=h
  exact Up.cons_false (fun v=>Bool.and_false _) (Up.append (posR_le a) (posT_le b) (up_R F k r _ _ _ a) (up_T F k e _ _ _ B b))
theorem up_T (F:Str→Str→Bool) (k:Str→Bool):∀(q:Rows) (lo hi:Nat) (ahead B:Str→Bool),posT lo hi q→Up lo hi (placesE F k ahead B q)
 | .nil,_,_,_,_,_=>by rw[placesE];exact Up.nil
 | .cons bar r e,lo,hi,ahead,B,h=>by
  rw[posT]at h;rw[placesE]
  obtain⟨c,m,a,b⟩:=h
  have h1:=posR_le a
  have h2:=posT_le b
  exact Up.cons c (by omega) (Up.append h1 h2 (up_R F k r _ _ _ a) (up_T F k e _ _ _ B b))
end
mutual
def cnP (p:Nat):Part→Nat
 | .word _=>0
 | .name _ _=>0
 | .br .grp _ e=>cnE p e
 | .br .opt q e=>(if q=p then 1 else 0)+cnE p e
 | .br .loop q e=>(if q=p then 1 else 0)+cnE p e
def cnR (p:Nat):Parts→Nat
 | .nil=>0
 | .cons q ps=>cnP p q+cnR p ps
def cnE (p:Nat):Rows→Nat
 | .nil=>0
 | .cons _ r e=>cnR p r+cnT p e
def cnT (p:Nat):Rows→Nat
 | .nil=>0
 | .cons b r e=>(if b=p then 1 else 0)+cnR p r+cnT p e
end
mutual
theorem cn_P (p:Nat):∀(q:Part) (lo hi:Nat),posP lo hi q→cnP p q≤1∧(p<lo∨hi≤p→cnP p q=0)
 | .word _,_,_,_=>by rw[cnP];omega
 | .name _ _,_,_,_=>by rw[cnP];omega
 | .br .grp q e,lo,hi,h=>by
  rw[posP]at h;rw[cnP]
  have:=cn_E p e _ _ h.2
  exact⟨this.1,fun x=>this.2 (by omega)⟩
 | .br .opt q e,lo,hi,h=>by
  rw[posP]at h;rw[cnP]
  have h1:=cn_E p e _ _ h.2
  have h2:=posE_le h.2
  split
  ·have:=h1.2 (by omega);omega
  ·exact⟨by omega,fun x=>by have:=h1.2 (by omega);omega⟩
 | .br .loop q e,lo,hi,h=>by
  rw[posP]at h;rw[cnP]
  have h1:=cn_E p e _ _ h.2
  have h2:=posE_le h.2
  split
  ·have:=h1.2 (by omega);omega
  ·exact⟨by omega,fun x=>by have:=h1.2 (by omega);omega⟩
theorem cn_R (p:Nat):∀(q:Parts) (lo hi:Nat),posR lo hi q→cnR p q≤1∧(p<lo∨hi≤p→cnR p q=0)
 | .nil,_,_,_=>by rw[cnR];omega
 | .cons q ps,lo,hi,h=>by
  rw[posR]at h;rw[cnR]
  obtain⟨m,a,b⟩:=h
  have h1:=cn_P p q _ _ a
  have h2:=cn_R p ps _ _ b
  have h3:=posP_le a
  have h4:=posR_le b
  by_cases hp:p<m
  ·have:=h2.2 (.inl hp)
   exact⟨by omega,fun x=>by have:=h1.2 (by omega);omega⟩
  ·have:=h1.2 (.inr (by omega))
   exact⟨by omega,fun x=>by have:=h2.2 (by omega);omega⟩
theorem cn_E (p:Nat):∀(q:Rows) (lo hi:Nat),posE lo hi q→cnE p q≤1∧(p<lo∨hi≤p→cnE p q=0)
 | .nil,_,_,_=>by rw[cnE];omega
 | .cons _ r e,lo,hi,h=>by
  rw[posE]at h;rw[cnE]
  obtain⟨m,a,b⟩:=h
  have h1:=cn_R p r _ _ a
  have h2:=cn_T p e _ _ b
  have h3:=posR_le a
  have h4:=posT_le b
  by_cases hp:p<m
  ·have:=h2.2 (.inl hp)
   exact⟨by omega,fun x=>by have:=h1.2 (by omega);omega⟩
  ·have:=h1.2 (.inr (by omega))
   exact⟨by omega,fun x=>by have:=h2.2 (by omega);omega⟩
theorem cn_T (p:Nat):∀(q:Rows) (lo hi:Nat),posT lo hi q→cnT p q≤1∧(p<lo∨hi≤p→cnT p q=0)
 | .nil,_,_,_=>by rw[cnT];omega
 | .cons bar r e,lo,hi,h=>by
  rw[posT]at h;rw[cnT]
  obtain⟨c,m,a,b⟩:=h
  have h1:=cn_R p r _ _ a
  have h2:=cn_T p e _ _ b
  have h3:=posR_le a
  have h4:=posT_le b
  split
  ·have:=h1.2 (by omega)
   have:=h2.2 (by omega)
   exact⟨by omega,fun x=>by omega⟩
  ·by_cases hp:p<m
   ·have:=h2.2 (.inl hp)
    exact⟨by omega,fun x=>by have:=h1.2 (by omega);omega⟩
   ·have:=h1.2 (.inr (by omega))
    exact⟨by omega,fun x=>by have:=h2.2 (by omega);omega⟩
end
def cnt (p:Nat):List Place→Nat
 | []=>0
 | q::l=>(if q.1=p then 1 else 0)+cnt p l
theorem cnt_append (p:Nat) (l m:List Place):cnt p (l++m)=cnt p l+cnt p m:=by
 induction l with
 | nil=>simp[cnt]
 | cons a l ih=>simp only[List.cons_append,cnt,ih];omega
def cnB (p:Nat):Rows→Nat
 | .nil=>0
 | .cons b _ e=>(if b=p then 1 else 0)+cnB p e
def cnI (p:Nat):Rows→Nat
 | .nil=>0
 | .cons _ r e=>cnR p r+cnI p e
theorem cnT_split (p:Nat):∀e:Rows,cnT p e=cnB p e+cnI p e
 | .nil=>by rw[cnT,cnB,cnI]
 | .cons b r e=>by rw[cnT,cnB,cnI,cnT_split p e];omega
theorem barPl_cnt (F:Str→Str→Bool) (k A:Str→Bool) (x:X) (c:Ctx) (p:Nat):∀(e:Rows) (l:Xs) (n:Nat) (ahead:Str→Bool),xEs e l →
  cnt p (barPl F k A x c ahead n (barsOf e) l)=cnB p e
 | .nil,l,n,ahead,h=>by rw[xEs]at h;subst h;rw[barsOf,barPl,cnB];all_goals simp[cnt]
 | .cons b r e,l,n,ahead,h=>by
  rw[xEs]at h
  obtain⟨y,l',rfl,_,hs⟩:=h
  rw[barsOf,barPl,cnt,barPl_cnt F k A x c p e l' (n+1) _ hs,cnB]
mutual
theorem cnt_P (F:Str→Str→Bool) (k A:Str→Bool) (p:Nat):∀(q:Part) (x:X) (c:Ctx),xP q x→cnt p (plX F k A (partsX c x))=cnP p q
 | .word s,x,c,h=>by rw[xP]at h;obtain⟨i,p,rfl⟩:=h;simp[partsX,partsXs,plX,contrib,cnP,cnt]
 | .name s p,x,c,h=>by rw[xP]at h;obtain⟨i,rfl⟩:=h;simp[partsX,partsXs,plX,contrib,cnP,cnt]
 | .br .grp _ e,x,c,h=>by rw[xP]at h;rw[cnP];exact cnt_E F k A p e x c h
 | .br .opt p' e,x,c,h=>by
  rw[xP]at h
  obtain⟨i,y,rfl,hy⟩:=h
  rw[partsX,partsXs,partsXs,List.append_nil,plX_cons,cnt_append,cnt_E F k A p e y _ hy,cnP,contrib,cnt,cnt]
  simp
 | .br .loop p' e,x,c,h=>by
  rw[xP]at h
  obtain⟨i,y,rfl,hy⟩:=h
  rw[partsX,partsXs,partsXs,List.append_nil,plX_cons,cnt_append,cnt_E F k A p e y _ hy,cnP,contrib,cnt,cnt]
  simp
theorem cnt_R (F:Str→Str→Bool) (k A:Str→Bool) (p:Nat):∀(ps:Parts) (x:X) (c:Ctx) (m:Nat) (l:Xs),xR ps l→cnt p (plX F k A (partsXs x c m l))=cnR p ps
 | .nil,x,c,m,l,h=>by rw[xR]at h;subst h;simp[partsXs,cnR,plX,cnt]
 | .cons q ps,x,c,m,l,h=>by
  rw[xR]at h
  obtain⟨y,l',rfl,hp,hr⟩:=h
  rw[partsXs,plX_append,cnt_append,cnt_P F k A p q y _ hp,cnt_R F k A p ps x c (m+1) l' hr,cnR]
theorem cnt_E (F:Str→Str→Bool) (k A:Str→Bool) (p:Nat):∀(e:Rows) (x:X) (c:Ctx),xE e x→cnt p (plX F k A (partsX c x))=cnE p e
 | .nil,x,c,h=>by rw[xE]at h;exact h.elim
 | .cons b r .nil,x,c,h=>by
  rw[xE]at h
  obtain⟨i,p',l,rfl,hr⟩:=h
  rw[partsX,plX_cons,contrib,List.nil_append,cnt_R F k A p r _ c 0 l hr,cnE,cnT]
  all_goals simp
 | .cons b0 r (.cons b r' e),x,c,h=>by
  rw[xE]at h
  obtain⟨i,p',y,l,rfl,⟨j,q,m,rfl,hr⟩,hs⟩:=h
  obtain⟨x,hx⟩:∃x,x=X.mk i .bar p' [] (b::barsOf e) (.cons (.mk j .row q [] [] m) l):=⟨_,rfl⟩
  have h2:=barPl_cnt F k A x c p (.cons b r' e) l 1 (fun w=>telX w (F w) k (A w) (.mk j .row q [] [] m) (.into x 0 c)) hs
  have h3:=cnt_Es F k A p (.cons b r' e) x c 1 l hs
  rw[barsOf]at h2
  rw[partsX,plX_cons,contrib,←hx,cnt_append,h2,partsXs,plX_append,cnt_append,partsX,plX_cons,contrib,List.nil_append,cnt_R F k A p r _ _ 0 m hr,h3]
  ·conv=>rhs;rw[cnE,cnT_split]
   omega
  all_goals simp
theorem cnt_Es (F:Str→Str→Bool) (k A:Str→Bool) (p:Nat):∀(e:Rows) (x:X) (c:Ctx) (m:Nat) (l:Xs),xEs e l→cnt p (plX F k A (partsXs x c m l))=cnI p e
 | .nil,x,c,m,l,h=>by rw[xEs]at h;subst h;simp[partsXs,cnI,plX,cnt]
 | .cons _ r e,x,c,m,l,h=>by
  rw[xEs]at h
  obtain⟨y,l',rfl,⟨j,q,t,rfl,hr⟩,hs⟩:=h
  rw[partsXs,plX_append,cnt_append,partsX,plX_cons,contrib,List.nil_append,cnt_R F k A p r _ _ 0 t hr,cnt_Es F k A p e x c (m+1) l' hs,cnI]
  all_goals simp
end
def Soon (l:List Place):Option (Nat×Str)→Prop
 | none=>∀p w,hit l p w=false
 | some (p,w)=>hit l p w=true∧∀q v,hit l q v=true→p<q∨(p=q∧ltS v w=false)
theorem Soon.one {l m:List Place} (e:∀p w,hit l p w=hit m p w):∀{b b':Option (Nat×Str)},Soon l b→Soon m b'→b=b'
 | none,none,_,_=>rfl
 | none,some (p,w),h,h'=>by have:=h'.1;rw[←e,h p w]at this;cases this
 | some (p,w),none,h,h'=>by have:=h.1;rw[e,h' p w]at this;cases this
 | some (p,w),some (q,v),h,h'=>by
  have h1:=h.2 q v (by rw[e];exact h'.1)
  have h2:=h'.2 p w (by rw[←e];exact h.1)
  have hpq:p=q:=by omega
  have a:ltS v w=false:=by rcases h1 with x | x;(· omega);exact x.2
  have b:ltS w v=false:=by rcases h2 with x | x;(· omega);exact x.2
  rw[hpq,ltS_total a b]
theorem hit_iff {l:List Place} {p:Nat} {w:Str}:hit l p w=true↔∃P,(p,P)∈l∧P w=true:=by
 unfold hit
 rw[List.any_eq_true]
 constructor
 ·rintro⟨⟨q,P⟩,h,h'⟩
  simp only[Bool.and_eq_true,beq_iff_eq]at h'
  obtain⟨rfl,h'⟩:=h'
  exact⟨P,h,h'⟩
 ·rintro⟨P,h,h'⟩
  exact⟨(p,P),h,by simp[h']⟩
theorem firstClash_soon {c:List Str} (hc:Rising c):∀{l:List Place} {lo hi:Nat},Up lo hi l→(∀q,q∈l→∀v,q.2 v=true→v∈c)→Soon l (firstClash c l)
 | [],_,_,_,_=>fun p w=>rfl
 | (p,P)::l,lo,hi,hu,hw=>by
  have hp:=List.pairwise_cons.1 hu.2
  rw[firstClash]
  split
  ·rename_i w hf
   obtain⟨h1,h2,h3⟩:=find_least hc hf
   refine⟨?_,?_⟩
   ·rw[hit_cons];simp[h1]
   ·intro q v hv
    rw[hit_cons,Bool.or_eq_true]at hv
    rcases hv with hv | hv
    ·simp only[Bool.and_eq_true,beq_iff_eq]at hv
     exact .inr ⟨hv.1,h3 v (hw _ List.mem_cons_self v hv.2) hv.2⟩
    ·obtain⟨Q,hm,hq⟩:=hit_iff.1 hv
     exact .inl (hp.1 (q,Q) hm w v h1 hq)
  ·rename_i hf
   have hP:∀v,P v=false:=fun v=>by
    cases hv:P v with
    | false=>rfl
    | true=>exact absurd hv (by simpa using List.find?_eq_none.1 hf v (hw (p,P) List.mem_cons_self v hv))
   have ih:=firstClash_soon hc (l:=l) (lo:=lo) (hi:=hi) ⟨fun q hq=>hu.1 q (List.mem_cons_of_mem _ hq),hp.2⟩ (fun q hq=>hw q (List.mem_cons_of_mem _ hq))
   have he:∀q v,hit ((p,P)::l) q v=hit l q v:=fun q v=>by rw[hit_cons];simp[hP]
   cases hb:firstClash c l with
   | none=>rw[hb]at ih;exact fun q v=>by rw[he];exact ih q v
   | some x =>
    rw[hb]at ih
    obtain⟨q,v⟩:=x
    exact⟨by rw[he];exact ih.1,fun q' v' h'=>ih.2 q' v' (by rw[←he];exact h')⟩
end
section
theorem rounds_post (names:List Str) (f:Step) (hf:f.Mono):∀n x,x∈rounds names f n→f (rounds names f n).contains x=true
 | 0,x,h=>by simp[rounds]at h
 | n+1,x,h=>by
  have h':=h
  simp only[rounds,next,List.mem_filter,Bool.or_eq_true]at h
  rcases h.2 with h2 | h2
  ·exact hf _ _ (fun y hy=>by simpa using rounds_succ_sub names f n (by simpa using hy)) x h2
  ·exact hf _ _ (fun y hy=>by simpa using rounds_succ_sub names f n (by simpa using hy)) x (rounds_post names f hf n x (by simpa using h2))
theorem round_on {names:List Str} {f:Step} (hf:f.Mono) {n:Nat} {K K':Str→Bool} (h:∀x,x∈rounds names f n→K x=true) (hr:∀x,x∈names→f K x=true→K' x=true) :
  ∀x,x∈rounds names f (n+1)→K' x=true:=by
 intro x hx
 have hm:=rounds_sub names f _ hx
 refine hr x hm (hf (rounds names f n).contains K (fun y hy=>h y (by simpa using hy)) x ?_)
 simp only[rounds,next,List.mem_filter,Bool.or_eq_true]at hx
 rcases hx.2 with h2 | h2
 ·exact h2
 ·exact rounds_post names f hf n x (by simpa using h2)
theorem rounds_done {names:List Str} {f:Step} {K:Str→Bool} (h:∀x,x∈rounds names f names.length→K x=true) (hs:∀x,K x=true→x∈least names f) (x:Str) :
  K x=(least names f).contains x:=by
 rw[Bool.eq_iff_iff]
 exact⟨fun hx=>by simpa using hs x hx,fun hx=>h x (by simpa[least] using hx)⟩
theorem least_takes {names:List Str} {f:Step} (hf:f.Mono) {K:Str→Bool} (hs:∀x,K x=true→x∈least names f) {x:Str} (hx:x∈names) (h:f K x=true):x∈least names f:=by
 have:=least_closed names f x hx (hf K _ (fun y hy=>by simpa using hs y hy) x h)
 simpa using this
theorem rounds_told {names:List Str} {f:Step} (hf:f.Mono) {n:Nat} {x:Str} (hx:x∈rounds names f (n+1)):f (rounds names f n).contains x=true:=by
 simp only[rounds,next,List.mem_filter,Bool.or_eq_true]at hx
 rcases hx.2 with h2 | h2
 ·exact h2
 ·exact rounds_post names f hf n x (by simpa using h2)
structure GSI (ns:List Str) (f:Step) (j i:Nat) (K:Str→Bool):Prop where
 sub:∀n,K n=true→n∈least ns f
 got:∀n,n∈rounds ns f j→K n=true
 done:∀k n,k<i→ns[k]?=some n→n∈rounds ns f (j+1)→K n=true
theorem GSI.zero (ns:List Str) (f:Step) {K:Str→Bool} (h:∀n,K n=false):GSI ns f 0 0 K :=
 ⟨fun n hn=>(by rw[h]at hn;cases hn),fun n hn=>(by simp[rounds]at hn),fun k n hk=>(by omega)⟩
theorem GSI.told {ns:List Str} {f:Step} (hf:f.Mono) {j i:Nat} {K:Str→Bool} (h:GSI ns f j i K) {n:Str} (hn:n∈rounds ns f (j+1)):f K n=true :=
 hf _ _ (fun y hy=>h.got y (by simpa using hy)) n (rounds_told hf hn)
theorem GSI.more {ns:List Str} {f:Step} (hf:f.Mono) {j i:Nat} {K K':Str→Bool} {n:Str} (h:GSI ns f j i K) (hn:ns[i]?=some n) (hk:∀m,m≠n→K' m=K m)
  (h1:f K n=true→K' n=true) (h2:K' n=true→K n=true∨f K n=true):GSI ns f j (i+1) K':=by
 have hmem:n∈ns:=List.mem_of_getElem? hn
 refine⟨?_,?_,?_⟩
 ·intro m hm
  by_cases e:m=n
  ·subst e
   rcases h2 hm with x | x
   ·exact h.sub m x
   ·exact least_takes hf h.sub hmem x
  ·rw[hk m e]at hm;exact h.sub m hm
 ·intro m hm
  by_cases e:m=n
  ·subst e;exact h1 (h.told hf (rounds_succ_sub ns f j hm))
  ·rw[hk m e];exact h.got m hm
 ·intro k m hk' hm hr
  by_cases e:m=n
  ·subst e;exact h1 (h.told hf hr)
  ·have:k≠i:=fun e'=>by subst e';rw[hn]at hm;simp at hm;exact e hm.symm
   rw[hk m e];exact h.done k m (by omega) hm hr
theorem GSI.next {ns:List Str} {f:Step} {j i:Nat} {K:Str→Bool} (h:GSI ns f j i K) (hi:ns.length≤i):GSI ns f (j+1) 0 K :=
 ⟨h.sub,fun n hn=>by
  obtain⟨k,hk⟩:=List.getElem?_of_mem (rounds_sub ns f _ hn)
  have:k<ns.length:=(List.getElem?_eq_some_iff.1 hk).1
  exact h.done k n (by omega) hk hn,fun k n hk=>by omega⟩
theorem GSI.end {ns:List Str} {f:Step} {i:Nat} {K:Str→Bool} (h:GSI ns f ns.length i K) (n:Str):K n=(least ns f).contains n:=rounds_done h.got h.sub n
structure GSP {ι:Type} (ns:List Str) (f:Step) (tn:ι→Str) (v:ι→(Str→Bool)→Bool) (j:Nat) (p:List ι) (K:Str→Bool):Prop where
 sub:∀n,K n=true→n∈least ns f
 got:∀n,n∈rounds ns f j→K n=true
 done:∀q,q∈p→v q (rounds ns f j).contains=true→K (tn q)=true
structure ByItems {ι:Type} (ns:List Str) (f:Step) (items:List ι) (tn:ι→Str) (v:ι→(Str→Bool)→Bool) (base:Str→Bool):Prop where
 mono:f.Mono
 told:∀K n,n∈ns→f K n=(base n||items.any (fun q=>tn q==n&&v q K))
 vmono:∀q K K',(∀y,K y=true→K' y=true)→v q K=true→v q K'=true
 mem:∀q,q∈items→tn q∈ns
theorem GSP.zero {ι:Type} {ns:List Str} {f:Step} {tn:ι→Str} {v:ι→(Str→Bool)→Bool} {items:List ι} {base:Str→Bool} (hb:ByItems ns f items tn v base) {K:Str→Bool} (h:∀n,K n=true→n∈ns∧base n=true):GSP ns f tn v 0 [] K :=
 ⟨fun n hn=>by
  have:=least_takes (f:=f) hb.mono (K:=fun _=>false) (fun x hx=>by cases hx) (h n hn).1
  refine this ?_
  rw[hb.told _ n (h n hn).1,(h n hn).2,Bool.true_or],fun n hn=>by simp[rounds]at hn,fun q hq=>by simp at hq⟩
theorem GSP.more {ι:Type} {ns:List Str} {f:Step} {tn:ι→Str} {v:ι→(Str→Bool)→Bool} {items:List ι} {base:Str→Bool} (hb:ByItems ns f items tn v base) {j:Nat} {p:List ι} {q:ι} {K K':Str→Bool}
  (h:GSP ns f tn v j p K) (hq:q∈items) (hk:∀m,K m=true→K' m=true) (h1:v q K=true→K' (tn q)=true) (h2:∀m,K' m=true→K m=true∨(m=tn q∧v q K=true)):GSP ns f tn v j (p++[q]) K':=by
 refine⟨?_,fun n hn=>hk n (h.got n hn),?_⟩
 ·intro m hm
  rcases h2 m hm with x | ⟨rfl,x⟩
  ·exact h.sub m x
  ·refine least_takes hb.mono h.sub (hb.mem q hq) ?_
   rw[hb.told _ _ (hb.mem q hq),Bool.or_eq_true,List.any_eq_true]
   exact .inr ⟨q,hq,by simp[x]⟩
 ·intro r hr hv
  rcases List.mem_append.1 hr with hr | hr
  ·exact hk _ (h.done r hr hv)
  ·rw[List.mem_singleton]at hr
   subst hr
   exact h1 (hb.vmono r _ _ (fun y hy=>h.got y (by simpa using hy)) hv)
theorem GSP.next {ι:Type} {ns:List Str} {f:Step} {tn:ι→Str} {v:ι→(Str→Bool)→Bool} {items:List ι} {base:Str→Bool} (hb:ByItems ns f items tn v base) {j:Nat} {K:Str→Bool}
  (h:GSP ns f tn v j items K) (h0:∀n,n∈ns→base n=true→K n=true):GSP ns f tn v (j+1) [] K :=
 ⟨h.sub,fun n hn=>by
  have hm:=rounds_sub ns f _ hn
  have:=rounds_told hb.mono hn
  rw[hb.told _ n hm,Bool.or_eq_true,List.any_eq_true]at this
  rcases this with x | ⟨q,hq,x⟩
  ·exact h0 n hm x
  ·rw[Bool.and_eq_true,beq_iff_eq]at x
   rw[←x.1];exact h.done q hq x.2,fun q hq=>by simp at hq⟩
theorem GSP.end {ι:Type} {ns:List Str} {f:Step} {tn:ι→Str} {v:ι→(Str→Bool)→Bool} {p:List ι} {K:Str→Bool} (h:GSP ns f tn v ns.length p K) (n:Str):K n=(least ns f).contains n:=rounds_done h.got h.sub n
end
section
def nmOf (q:X×Ctx):Option (Str×Nat):=if q.1.op=.name then some (q.1.s,q.1.pos) else none
mutual
theorem names_P:∀(p:Part) (x:X) (c:Ctx),xP p x→(partsX c x).filterMap nmOf=namesP p
 | .word s,x,c,h=>by rw[xP]at h;obtain⟨i,p,rfl⟩:=h;simp[partsX,partsXs,nmOf,namesP,X.op]
 | .name s p,x,c,h=>by rw[xP]at h;obtain⟨i,rfl⟩:=h;simp[partsX,partsXs,nmOf,namesP,X.op,X.s,X.pos]
 | .br .grp _ e,x,c,h=>by rw[xP]at h;rw[namesP];exact names_E e x c h
 | .br .opt p e,x,c,h=>by
  rw[xP]at h
  obtain⟨i,y,rfl,hy⟩:=h
  rw[partsX,partsXs,partsXs,List.append_nil,List.filterMap_cons_none (by simp[nmOf,X.op]),names_E e y _ hy,namesP]
 | .br .loop p e,x,c,h=>by
  rw[xP]at h
  obtain⟨i,y,rfl,hy⟩:=h
  rw[partsX,partsXs,partsXs,List.append_nil,List.filterMap_cons_none (by simp[nmOf,X.op]),names_E e y _ hy,namesP]
theorem names_R:∀(ps:Parts) (x:X) (c:Ctx) (m:Nat) (l:Xs),xR ps l→(partsXs x c m l).filterMap nmOf=namesR ps
 | .nil,x,c,m,l,h=>by rw[xR]at h;subst h;simp[partsXs,namesR]
 | .cons p ps,x,c,m,l,h=>by
  rw[xR]at h
  obtain⟨y,l',rfl,hp,hr⟩:=h
  rw[partsXs,List.filterMap_append,names_P p y _ hp,names_R ps x c (m+1) l' hr,namesR]
theorem names_E:∀(e:Rows) (x:X) (c:Ctx),xE e x→(partsX c x).filterMap nmOf=namesE e
 | .nil,x,c,h=>by rw[xE]at h;exact h.elim
 | .cons _ r .nil,x,c,h=>by
  rw[xE]at h
  obtain⟨i,p,l,rfl,hr⟩:=h
  rw[partsX,List.filterMap_cons_none (by simp[nmOf,X.op]),names_R r _ c 0 l hr,namesE,namesE,List.append_nil]
 | .cons _ r (.cons b r' e),x,c,h=>by
  rw[xE]at h
  obtain⟨i,p,y,l,rfl,⟨j,q,m,rfl,hr⟩,hs⟩:=h
  rw[partsX,List.filterMap_cons_none (by simp[nmOf,X.op]),partsXs,List.filterMap_append,partsX,List.filterMap_cons_none (by simp[nmOf,X.op]),names_R r _ _ 0 m hr,names_Es (.cons b r' e) _ c 1 l hs]
  conv=>rhs;rw[namesE]
theorem names_Es:∀(e:Rows) (x:X) (c:Ctx) (m:Nat) (l:Xs),xEs e l→(partsXs x c m l).filterMap nmOf=namesE e
 | .nil,x,c,m,l,h=>by rw[xEs]at h;subst h;simp[partsXs,namesE]
 | .cons _ r e,x,c,m,l,h=>by
  rw[xEs]at h
  obtain⟨y,l',rfl,⟨j,q,t,rfl,hr⟩,hs⟩:=h
  rw[partsXs,List.filterMap_append,partsX,List.filterMap_cons_none (by simp[nmOf,X.op]),names_R r _ _ 0 t hr,names_Es e x c (m+1) l' hs,namesE]
end
def Trees:List Rule→List X→Prop
 | [],l=>l=[]
 | r::G,l=>∃x l',l=x::l'∧xE r.body x∧Trees G l'
theorem Trees.length:∀{G:List Rule} {l:List X},Trees G l→l.length=G.length
 | [],_,h=>by rw[Trees]at h;subst h;rfl
 | r::G,_,h=>by rw[Trees]at h;obtain⟨x,l',rfl,_,h'⟩:=h;simp[Trees.length h']
theorem Trees.at:∀{G:List Rule} {l:List X},Trees G l→∀{k:Nat} {r:Rule} {x:X},G[k]?=some r→l[k]?=some x→xE r.body x
 | [],_,_,k,r,x,h1,_=>by simp at h1
 | r::G,_,h,k,r',x',h1,h2=>by
  rw[Trees]at h
  obtain⟨x,l',rfl,hx,h'⟩:=h
  cases k with
  | zero=>simp at h1 h2;subst h1;subst h2;exact hx
  | succ k=>exact Trees.at h' (by simpa using h1) (by simpa using h2)
def allX:Nat→List X→List (Nat×X×Ctx)
 | _,[]=>[]
 | k,x::l=>(partsX .top x).map (fun q=>(k,q))++allX (k+1) l
theorem any_allX (all:List Str) (φ:Str→X×Ctx→Bool) (ψ:Rule→Bool) (h:∀r x,xE r.body x→(partsX .top x).any (φ r.name)=ψ r) :
  ∀(G:List Rule) (l:List X) (pre:List Str),Trees G l→all=pre++names G→(allX pre.length l).any (fun q=>φ (all.getD q.1 []) q.2)=G.any ψ
 | [],l,pre,ht,_=>by rw[Trees]at ht;subst ht;simp[allX]
 | r::G,l,pre,ht,he=>by
  rw[Trees]at ht
  obtain⟨x,l',rfl,hx,h'⟩:=ht
  have ih:=any_allX all φ ψ h G l' (pre++[r.name]) h' (by rw[he];simp[names])
  rw[List.length_append,List.length_singleton]at ih
  have hg:all.getD pre.length []=r.name:=by rw[he];simp[names,List.getD]
  rw[allX,List.any_append,ih,List.any_cons,←h r x hx,List.any_map]
  congr 1
  refine congrArg (fun f=>List.any (partsX .top x) f) ?_
  funext q
  show φ (all.getD pre.length []) q=_
  rw[hg]
theorem name_any (n:Str):∀l:List (X×Ctx),l.any (fun q=>q.1.op==.name&&q.1.s==n)=(l.filterMap nmOf).any (fun x=>x.1==n)
 | []=>rfl
 | q::l=>by
  rw[List.any_cons,name_any n l]
  by_cases h:q.1.op=.name
  ·rw[List.filterMap_cons_some (b:=(q.1.s,q.1.pos)) (by simp[nmOf,h]),List.any_cons]
   simp[h]
  ·rw[List.filterMap_cons_none (by simp[nmOf,h])]
   have:(q.1.op==XOp.name)=false:=by simpa using h
   simp[this]
def items (l:List X):List (Nat×X×Ctx):=(allX 0 l).filter (fun q=>q.2.1.op==.name)
theorem items_any (l:List X) (p:Nat×X×Ctx→Bool):(items l).any p=(allX 0 l).any (fun q=>q.2.1.op==.name&&p q):=by
 unfold items;rw[List.any_filter]
def comeV (ns:List Str) (q:Nat×X×Ctx) (K:Str→Bool):Bool:=K (ns.getD q.1 [])
def aftV (ns:List Str) (f k:Str→Bool) (w:Str) (q:Nat×X×Ctx) (K:Str→Bool):Bool:=aftC w f k (K (ns.getD q.1 [])) q.2.1 q.2.2
theorem aftC_mono (w:Str) (f k:Str→Bool) {a a':Bool} (h:a=true→a'=true):∀(c:Ctx) (x:X),aftC w f k a x c=true→aftC w f k a' x c=true
 | .top,x,hx=>h hx
 | .into p i c,x,hx=>by
  rw[aftC]at *
  split at hx
  ·simp only[Bool.or_eq_true,Bool.and_eq_true]at *
   exact hx.imp id (fun y=>⟨y.1,aftC_mono w f k h c p y.2⟩)
  ·simp only[Bool.or_eq_true]at *
   exact hx.imp id (fun y=>aftC_mono w f k h c p y)
  ·exact aftC_mono w f k h c p hx
theorem item_mem {G:List Rule} {l:List X} (ht:Trees G l) (hn:findNone G=none) (q:Nat×X×Ctx) (hq:q∈items l):q.2.1.s∈names G:=by
 unfold items at hq
 rw[List.mem_filter]at hq
 have h1:(allX 0 l).any (fun q'=>q'.2.1.op==.name&&q'.2.1.s==q.2.1.s)=true:=List.any_eq_true.2 ⟨q,hq.1,by simp at hq;simp[hq.2]⟩
 have h2:=any_allX (names G) (fun _ q'=>q'.1.op==.name&&q'.1.s==q.2.1.s) (fun r=>(namesE r.body).any (fun x=>x.1==q.2.1.s)) (fun r x hx=>by rw[name_any,names_E r.body x .top hx]) G l [] ht rfl
 rw[List.length_nil]at h2
 rw[h2,List.any_eq_true]at h1
 obtain⟨r,hr,h1⟩:=h1
 rw[List.any_eq_true]at h1
 obtain⟨y,hy,he⟩:=h1
 unfold findNone at hn
 have:=List.find?_eq_none.1 hn y (List.mem_flatMap.2 ⟨r,hr,hy⟩)
 simp at this he
 rw[←he];exact this
theorem come_items {G:List Rule} {l:List X} (ht:Trees G l) (hn:findNone G=none) :
  ByItems (names G) (comeStep G) (items l) (fun q=>q.2.1.s) (comeV (names G)) (fun n=>(names G).head?==some n):=by
 refine⟨comeStep_mono G,?_,fun q K K' h hv=>h _ hv,item_mem ht hn⟩
 intro K n _
 unfold comeStep
 congr 1
 rw[items_any]
 have:=any_allX (names G) (fun m q=>(q.1.op==.name&&q.1.s==n)&&K m) (fun r=>K r.name&&(namesE r.body).any (fun x=>x.1==n)) (fun r x hx=>by
  rw[←names_E r.body x .top hx,←name_any]
  cases K r.name<;>simp) G l [] ht rfl
 rw[List.length_nil]at this
 rw[←this]
 congr 1
 funext q
 simp only[comeV]
 rw[Bool.and_assoc]
theorem aft_items {G:List Rule} {l:List X} (ht:Trees G l) (hn:findNone G=none) (f k:Str→Bool) (w:Str) :
  ByItems (names G) (aftStep G f k w) (items l) (fun q=>q.2.1.s) (aftV (names G) f k w) (fun n=>(names G).head?==some n&&w==[]):=by
 refine⟨aftStep_mono G f k w,?_,fun q K K' h hv=>aftC_mono w f k (h _) _ _ hv,item_mem ht hn⟩
 intro K n _
 unfold aftStep
 congr 1
 rw[items_any]
 have:=any_allX (names G) (fun m q=>nameAt w f k (K m) n q) (fun r=>occE w f k n (K r.name) r.body) (fun r x hx=>by
  have:=occ_E w f k (K r.name) n r.body x .top hx
  rw[aftC]at this
  exact this) G l [] ht rfl
 rw[List.length_nil]at this
 rw[←this]
 congr 1
 funext q
 simp only[aftV,nameAt]
 rw[Bool.and_assoc]
def plAll (F:Str→Str→Bool) (k:Str→Bool) (A:Str→Str→Bool) (ns:List Str) (l:List (Nat×X×Ctx)):List Place:=l.flatMap (fun q=>contrib F k (A (ns.getD q.1 [])) q.2)
theorem plAll_part (F:Str→Str→Bool) (k:Str→Bool) (A:Str→Str→Bool) (ns:List Str) (i:Nat) (l:List (X×Ctx)):plAll F k A ns (l.map (fun q=>(i,q)))=plX F k (A (ns.getD i [])) l:=by
 unfold plAll plX
 rw[List.flatMap_map]
theorem plAll_append (F:Str→Str→Bool) (k:Str→Bool) (A:Str→Str→Bool) (ns:List Str) (l m:List (Nat×X×Ctx)):plAll F k A ns (l++m)=plAll F k A ns l++plAll F k A ns m:=by simp[plAll]
theorem hit_all (F:Str→Str→Bool) (k:Str→Bool) (A:Str→Str→Bool) (all:List Str) (p:Nat) (w:Str) :
  ∀(G:List Rule) (l:List X) (pre:List Str),Trees G l→all=pre++names G→hit (plAll F k A all (allX pre.length l)) p w=hit (G.flatMap (fun r=>placesE F k (fun _=>false) (A r.name) r.body)) p w
 | [],l,pre,ht,_=>by rw[Trees]at ht;subst ht;simp[allX,plAll]
 | r::G,l,pre,ht,he=>by
  rw[Trees]at ht
  obtain⟨x,l',rfl,hx,h'⟩:=ht
  have ih:=hit_all F k A all p w G l' (pre++[r.name]) h' (by rw[he];simp[names])
  rw[List.length_append,List.length_singleton]at ih
  have hg:all.getD pre.length []=r.name:=by rw[he];simp[names,List.getD]
  rw[allX,plAll_append,plAll_part,hg,hit_append,ih,List.flatMap_cons,hit_append,pl_E F k (A r.name) p w r.body x .top (A r.name) (fun w=>by rw[aftC]) hx]
def posG (lo hi:Nat):List Rule→Prop
 | []=>lo≤hi
 | r::G=>∃a m,lo≤a∧posE a m r.body∧posG m hi G
theorem posG_le {hi:Nat}:∀{G:List Rule} {lo:Nat},posG lo hi G→lo≤hi
 | [],_,h=>h
 | r::G,lo,h=>by rw[posG]at h;obtain⟨a,m,h1,h2,h3⟩:=h;have:=posE_le h2;have:=posG_le h3;omega
theorem up_G (F:Str→Str→Bool) (k:Str→Bool) (A:Str→Str→Bool) {hi:Nat}:∀{G:List Rule} {lo:Nat},posG lo hi G→Up lo hi (G.flatMap (fun r=>placesE F k (fun _=>false) (A r.name) r.body))
 | [],_,_=>by simp;exact Up.nil
 | r::G,lo,h=>by
  rw[posG]at h
  obtain⟨a,m,h1,h2,h3⟩:=h
  have:=posE_le h2
  rw[List.flatMap_cons]
  exact Up.append (by omega) (posG_le h3) ((up_E F k r.body a m _ h2).wide h1 (Nat.le_refl _)) (up_G F k A h3)
theorem cnt_all (F:Str→Str→Bool) (k:Str→Bool) (A:Str→Str→Bool) (all:List Str) (p:Nat) {hi:Nat} :
  ∀(G:List Rule) (l:List X) (i lo:Nat),Trees G l→posG lo hi G→cnt p (plAll F k A all (allX i l))≤1∧(p<lo→cnt p (plAll F k A all (allX i l))=0)
 | [],l,i,lo,ht,_=>by rw[Trees]at ht;subst ht;simp[allX,plAll,cnt]
 | r::G,l,i,lo,ht,hp=>by
  rw[Trees]at ht
  obtain⟨x,l',rfl,hx,h'⟩:=ht
  rw[posG]at hp
  obtain⟨a,m,h1,h2,h3⟩:=hp
  have ih:=cnt_all F k A all p G l' (i+1) m h' h3
  have hc:=cn_E p r.body a m h2
  have hl:=posE_le h2
  rw[allX,plAll_append,plAll_part,cnt_append,cnt_E F k _ p r.body x .top hx]
  by_cases hpm:p<m
  ·have:=ih.2 hpm
   exact⟨by omega,fun h=>by have:=hc.2 (.inl (by omega));omega⟩
  ·have:=hc.2 (.inr (by omega))
   exact⟨by omega,fun h=>by omega⟩
theorem rule_pos {l:Str} {n:Nat} {t:Tok} {r:Rule} {t':Tok} (ht:t.fits l) (h:ruleF l n t=.ok r t'):t'.fits l∧t.pos≤t'.pos∧∃a m,t.pos≤a∧m≤t'.pos∧posE a m r.body:=by
 unfold ruleF at h
 split at h
 ·rename_i h1
  have o1:=Tok.on_next ht (by omega)
  split at h
  ·rename_i h2
   have o2:=Tok.on_next o1.1 (by omega)
   split at h
   ·simp at h
   ·rename_i e t3 he
    have o3:=(reader_on l n).1 _ _ _ _ _ o2.1 he
    have hp:=(reader_pos l n).1 _ _ _ _ _ o2.1 he
    split at h
    ·rename_i h3
     simp at h
     have o4:=Tok.on_next o3.1 (by omega)
     have q1:=Tok.on_pos o1
     have q2:=Tok.on_pos o2
     have q3:=Tok.on_pos o3
     have q4:=Tok.on_pos o4
     rw[←h.2,←h.1]
     exact⟨o4.1,by omega,_,_,by omega,q4,hp⟩
    ·simp at h
  ·simp at h
 ·simp at h
theorem rules_pos {l:Str}:∀(n:Nat) (t:Tok) (G:List Rule) (t':Tok),t.fits l→rulesF l n t=.ok G t'→posG t.pos t'.pos G
 | 0,t,G,t',_,h=>by simp[rulesF]at h
 | n+1,t,G,t',ht,h=>by
  rw[rulesF]at h
  split at h
  ·simp at h;rw[h.1,h.2];exact Nat.le_refl _
  ·split at h
   ·simp at h
   ·rename_i r t1 hr
    split at h
    ·simp at h
    ·rename_i rs t2 hrs
     simp at h
     obtain⟨o1,o2,a,m,h1,h2,h3⟩:=rule_pos ht hr
     have ih:=rules_pos n t1 rs t2 o1 hrs
     rw[←h.1,←h.2,posG]
     refine⟨a,t1.pos,h1,posE_wide (Nat.le_refl _) h2 h3,ih⟩
theorem read_pos {l:Str} {G:List Rule} {t:Tok} (h:read l=.ok G t):∃lo hi,posG lo hi G:=⟨_,_,rules_pos _ _ _ _ (tokFrom_fits l 0 (Nat.zero_le _)) h⟩
def soonerP (b:Option (Nat×Str)) (p:Nat) (o:Option Str):Option (Nat×Str) :=
 match b with
 | none=>o.map (fun w=>(p,w))
 | some (q,v)=>if q<p then some (q,v) else match o with
  | some w=>some (p,w)
  | none=>some (q,v)
theorem soon_step {l:List Place} {b:Option (Nat×Str)} {p:Nat} {P:Str→Bool} {o:Option Str} (h:Soon l b) (hc:cnt p l=0) (h0:o=none→∀v,P v=false) (h1:∀w,o=some w→P w=true∧∀v,P v=true→ltS v w=false) :
  Soon (l++[(p,P)]) (soonerP b p o):=by
 have hno:∀(m:List Place),cnt p m=0→∀w,hit m p w=false:=by
  intro m
  induction m with
  | nil=>intro _ w;rfl
  | cons a m ih =>
   intro hm w
   rw[cnt]at hm
   have ha:a.1≠p:=fun e=>by rw[if_pos e]at hm;omega
   rw[hit_cons,ih (by omega) w]
   simp[ha]
 have hn:=hno l hc
 have he:∀q v,hit (l++[(p,P)]) q v=(hit l q v||(p==q&&P v)):=fun q v=>by rw[hit_append,hit_cons,hit_nil,Bool.or_false]
 cases b with
 | none =>
  have h:∀p w,hit l p w=false:=h
  cases o with
  | none=>intro q v;rw[he,h q v,h0 rfl v];simp
  | some w =>
   obtain⟨a,b⟩:=h1 w rfl
   refine⟨by rw[he];simp[a],?_⟩
   intro q v hv
   rw[he,h q v]at hv
   simp at hv
   exact .inr ⟨hv.1,b v hv.2⟩
 | some x =>
  obtain⟨q,v⟩:=x
  unfold soonerP
  by_cases hq:q<p
  ·simp only[hq,if_true]
   refine⟨by rw[he,h.1];rfl,?_⟩
   intro q' v' hv
   rw[he,Bool.or_eq_true]at hv
   rcases hv with hv | hv
   ·exact h.2 q' v' hv
   ·simp at hv;left;omega
  ·simp only[hq,if_false]
   have hqp:q≠p:=fun e=>by subst e;have:=h.1;rw[hn v]at this;cases this
   cases o with
   | none =>
    refine⟨by rw[he,h.1];rfl,?_⟩
    intro q' v' hv
    rw[he,h0 rfl v']at hv
    simp at hv
    exact h.2 q' v' hv
   | some w =>
    obtain⟨a,b⟩:=h1 w rfl
    refine⟨by rw[he];simp[a],?_⟩
    intro q' v' hv
    rw[he,Bool.or_eq_true]at hv
    rcases hv with hv | hv
    ·have:=h.2 q' v' hv;left;omega
    ·simp at hv
     exact .inr ⟨hv.1,b v' hv.2⟩
theorem clash_eq {G:List Rule} {l:List X} {lo hi:Nat} (ht:Trees G l) (hp:posG lo hi G) {b:Option (Nat×Str)}
  (h:Soon (plAll (fun w n=>(fsts G w).contains n) (nul G).contains (fun n w=>(afts G w).contains n) (names G) (allX 0 l)) b):b=firstClash (cands G) (places G):=by
 refine Soon.one (m:=places G) ?_ h (firstClash_soon (cands_rising G) (up_G _ _ (fun n w=>(afts G w).contains n) hp) ?_)
 ·intro p w
  exact hit_all (fun w n=>(fsts G w).contains n) (nul G).contains (fun n w=>(afts G w).contains n) (names G) p w G l [] ht rfl
 ·intro q hq v hv
  exact places_words hq hv
end
section
def putS (w:Str):List Str→List Str
 | []=>[w]
 | x::l=>if ltS w x then w::x::l else x::putS w l
def putM (l:List Str) (w:Str):List Str:=if l.contains w then l else putS w l
def withS (l more:List Str):List Str:=more.foldl putM l
theorem mem_putS (w x:Str):∀l:List Str,x∈putS w l↔x=w∨x∈l
 | []=>by simp[putS]
 | y::l=>by
  rw[putS]
  split
  ·simp
  ·simp only[List.mem_cons,mem_putS w x l]
   constructor
   ·rintro(h | h | h)
    ·exact .inr (.inl h)
    ·exact .inl h
    ·exact .inr (.inr h)
   ·rintro(h | h | h)
    ·exact .inr (.inl h)
    ·exact .inl h
    ·exact .inr (.inr h)
theorem putS_rising (w:Str):∀l:List Str,Rising l→w∉l→Rising (putS w l)
 | [],_,_=>by rw[putS];exact List.pairwise_singleton _ _
 | y::l,h,hw=>by
  rw[putS]
  have h':=List.pairwise_cons.1 h
  split
  ·rename_i hlt
   refine List.pairwise_cons.2 ⟨?_,h⟩
   intro z hz
   rcases List.mem_cons.1 hz with rfl | hz
   ·exact hlt
   ·exact ltS_trans hlt (h'.1 z hz)
  ·rename_i hlt
   refine List.pairwise_cons.2 ⟨?_,putS_rising w l h'.2 (fun e=>hw (List.mem_cons_of_mem _ e))⟩
   intro z hz
   rcases(mem_putS w z l).1 hz with rfl | hz
   ·cases hy:ltS y z with
    | true=>rfl
    | false=>exact absurd (ltS_total (by simpa using hlt) hy) (fun e=>hw (e▸List.mem_cons_self))
   ·exact h'.1 z hz
theorem putM_mem (l:List Str) (w x:Str):x∈putM l w↔x∈l∨x=w:=by
 unfold putM
 split
 ·rename_i h
  constructor
  ·exact .inl
  ·rintro(h' | rfl)
   ·exact h'
   ·simpa using h
 ·rw[mem_putS];exact Or.comm
theorem putM_rising {l:List Str} (h:Rising l) (w:Str):Rising (putM l w):=by
 unfold putM
 split
 ·exact h
 ·rename_i hw
  exact putS_rising w l h (by simpa using hw)
theorem withS_mem:∀(more l:List Str) (x:Str),x∈withS l more↔x∈l∨x∈more
 | [],l,x=>by simp[withS]
 | w::more,l,x=>by
  rw[withS,List.foldl_cons]
  have:=withS_mem more (putM l w) x
  rw[withS]at this
  rw[this,putM_mem,List.mem_cons,or_assoc]
theorem withS_rising:∀(more l:List Str),Rising l→Rising (withS l more)
 | [],l,h=>h
 | w::more,l,h=>by
  rw[withS,List.foldl_cons]
  exact withS_rising more (putM l w) (putM_rising h w)
theorem rising_nodup {l:List Str} (h:Rising l):l.Nodup:=by
 refine List.Pairwise.imp ?_ h
 intro a b hab e
 subst e
 rw[ltS_irrefl]at hab
 cases hab
theorem rising_le {l m:List Str} (h:Rising l) (hs:∀x,x∈l→x∈m):l.length≤m.length:=nodup_le l m (rising_nodup h) hs
structure Tells (l:List Str) (P:Str→Bool):Prop where
 up:Rising l
 is:∀x,l.contains x=P x
theorem Tells.mem {l:List Str} {P:Str→Bool} (h:Tells l P) (x:Str):x∈l↔P x=true:=by
 rw[←h.is x];simp
theorem Tells.nil:Tells [] (fun _=>false):=⟨.nil,fun _=>rfl⟩
theorem Tells.one (w:Str):Tells [w] (fun x=>w==x):=⟨List.pairwise_singleton _ _,fun x=>by
 show(x==w||false)=(w==x)
 rw[Bool.or_false,Bool.eq_iff_iff,beq_iff_eq,beq_iff_eq];exact eq_comm⟩
theorem Tells.with {l m:List Str} {P Q:Str→Bool} (h:Tells l P) (h':Tells m Q):Tells (withS l m) (fun x=>P x||Q x) :=
 ⟨withS_rising m l h.up,fun x=>by
  rw[Bool.eq_iff_iff,Bool.or_eq_true,←h.mem x,←h'.mem x,←withS_mem];simp⟩
theorem Tells.ext {l:List Str} {P Q:Str→Bool} (h:Tells l P) (e:∀x,P x=Q x):Tells l Q:=⟨h.up,fun x=>(h.is x).trans (e x)⟩
theorem Tells.one' {l m:List Str} {P Q:Str→Bool} (h:Tells l P) (h':Tells m Q) (e:∀x,P x=Q x):l=m :=
 rising_ext h.up h'.up (fun x=>by rw[h.mem,h'.mem,e])
theorem Tells.length {l m:List Str} {P:Str→Bool} (h:Tells l P) (hs:∀x,P x=true→x∈m):l.length≤m.length:=rising_le h.up (fun x hx=>hs x ((h.mem x).1 hx))
theorem putS_go (w:Str):∀(a b:List Str),(∀x,x∈a→ltS w x=false)→putS w (a++b)=a++putS w b
 | [],_,_=>rfl
 | x::a,b,h=>by
  rw[List.cons_append,putS,if_neg (by rw[h x List.mem_cons_self];simp),putS_go w a b (fun y hy=>h y (List.mem_cons_of_mem _ hy)),List.cons_append]
theorem withS_snoc (l m:List Str) (w:Str):withS l (m++[w])=putM (withS l m) w:=by
 unfold withS;rw[List.foldl_append];rfl
theorem putS_length (w:Str):∀l:List Str,(putS w l).length=l.length+1
 | []=>rfl
 | x::l=>by rw[putS];split<;>simp[putS_length w l]
theorem putM_length (l:List Str) (w:Str):(putM l w).length≤l.length+1:=by
 unfold putM;split
 ·omega
 ·rw[putS_length];omega
theorem withS_length:∀(m l:List Str),(withS l m).length≤l.length+m.length
 | [],l=>by simp[withS]
 | w::m,l=>by
  rw[withS,List.foldl_cons]
  have h1:=withS_length m (putM l w)
  have h2:=putM_length l w
  rw[withS]at h1
  simp only[List.length_cons]
  omega
end
section
mutual
theorem nodesP {lo hi:Nat}:∀(p:Part) (x:X),posP lo hi p→xP p x→x.all.length+3 * lo≤3 * hi
 | .word _,x,h,hx=>by
  rw[posP]at h
  rw[xP]at hx
  obtain⟨i,p,rfl⟩:=hx
  simp[X.all,Xs.all];omega
 | .name _ _,x,h,hx=>by
  rw[posP]at h
  rw[xP]at hx
  obtain⟨i,rfl⟩:=hx
  simp[X.all,Xs.all];omega
 | .br .grp q e,x,h,hx=>by
  rw[posP]at h
  rw[xP]at hx
  have:=nodesE e x h.2 hx
  omega
 | .br .opt q e,x,h,hx=>by
  rw[posP]at h
  rw[xP]at hx
  obtain⟨i,y,rfl,hy⟩:=hx
  have:=nodesE e y h.2 hy
  simp[X.all,Xs.all];omega
 | .br .loop q e,x,h,hx=>by
  rw[posP]at h
  rw[xP]at hx
  obtain⟨i,y,rfl,hy⟩:=hx
  have:=nodesE e y h.2 hy
  simp[X.all,Xs.all];omega
theorem nodesR {lo hi:Nat}:∀(ps:Parts) (l:Xs),posR lo hi ps→xR ps l→l.all.length+3 * lo≤3 * hi
 | .nil,l,h,hx=>by
  rw[posR]at h
  rw[xR]at hx
  subst hx
  simp[Xs.all];omega
 | .cons p ps,l,h,hx=>by
  rw[posR]at h
  rw[xR]at hx
  obtain⟨m,h1,h2⟩:=h
  obtain⟨x,l',rfl,hx,hl⟩:=hx
  have:=nodesP p x h1 hx
  have:=nodesR ps l' h2 hl
  rw[Xs.all,List.length_append];omega
theorem nodesE {lo hi:Nat}:∀(e:Rows) (x:X),posE lo hi e→xE e x→x.all.length+3 * lo≤3 * hi+2
 | .nil,x,h,hx=>by rw[xE]at hx;exact hx.elim
 | .cons _ r .nil,x,h,hx=>by
  rw[posE]at h
  rw[xE]at hx
  obtain⟨m,h1,h2⟩:=h
  rw[posT]at h2
  obtain⟨i,p,l,rfl,hl⟩:=hx
  have:=nodesR r l h1 hl
  rw[X.all,List.length_cons];omega
 | .cons _ r (.cons b r' e),x,h,hx=>by
  rw[posE]at h
  rw[xE]at hx
  obtain⟨m,h1,h2⟩:=h
  obtain⟨i,p,y,l,rfl,⟨j,q,k,rfl,hk⟩,hl⟩:=hx
  have:=nodesR r k h1 hk
  have:=nodesT (.cons b r' e) l h2 hl
  rw[X.all,List.length_cons,Xs.all,List.length_append,X.all,List.length_cons];omega
theorem nodesT {lo hi:Nat}:∀(e:Rows) (l:Xs),posT lo hi e→xEs e l→l.all.length+3 * lo≤3 * hi
 | .nil,l,h,hx=>by
  rw[posT]at h
  rw[xEs]at hx
  subst hx
  simp[Xs.all];omega
 | .cons b r e,l,h,hx=>by
  rw[posT]at h
  rw[xEs]at hx
  obtain⟨h0,m,h1,h2⟩:=h
  obtain⟨y,l',rfl,⟨j,q,k,rfl,hk⟩,hl⟩:=hx
  have:=nodesR r k h1 hk
  have:=nodesT e l' h2 hl
  rw[Xs.all,List.length_append,X.all,List.length_cons];omega
end
theorem nodesG {hi:Nat}:∀(G:List Rule) (l:List X) (lo:Nat),posG lo hi G→Trees G l→(l.flatMap X.all).length+3 * lo≤3 * hi+2 * G.length
 | [],l,lo,h,ht=>by
  rw[Trees]at ht
  subst ht
  rw[posG]at h
  simp;omega
 | r::G,l,lo,h,ht=>by
  rw[Trees]at ht
  rw[posG]at h
  obtain⟨x,l',rfl,hx,h'⟩:=ht
  obtain⟨a,m,h1,h2,h3⟩:=h
  have:=nodesE r.body x h2 hx
  have:=nodesG G l' m h3 h'
  rw[List.flatMap_cons,List.length_append,List.length_cons];omega
theorem read_posG {l:Str} {G:List Rule} {t:Tok} (h:read l=.ok G t):∃lo hi,posG lo hi G∧hi≤l.length:=by
 refine⟨_,_,rules_pos _ _ _ _ (tokFrom_fits l 0 (Nat.zero_le _)) h,?_⟩
 obtain⟨f,_⟩:=rules_count _ _ _ _ (tokFrom_fits l 0 (Nat.zero_le _)) h
 have h1:=f.1
 have h2:=f.2.1
 omega
end
end PredP
